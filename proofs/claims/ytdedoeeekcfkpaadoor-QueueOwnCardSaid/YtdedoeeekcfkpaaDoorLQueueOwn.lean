/- For every frame the law QueueOwn answers true and leaves its argument as it was; the package's table of longer sizes is tied to the program's text. No conditions. -/
import Derived.Test.YtdedoeeekcfkpaaDoorRows
import Derived.Test.YtdedoeeekcfkpaaDoorCards
import Derived.Test.YtdedoeeekcfkpaaDoorTie
import Derived.Test.YtdedoeeekcfkpaaDoorGqc
import Derived.Test.YtdedoeeekcfkpaaDoorQuS
import Derived.Test.YtdedoeeekcfkpaaDoorGor
import Derived.Test.YtdedoeeekcfkpaaDoorFrmE
import Derived.Test.YtdedoeeekcfkpaaDoorGj
import Derived.Test.YtdedoeeekcfkpaaDoorGe
import Derived.Test.YtdedoeeekcfkpaaDoorGa
import Derived.WalkKit
import Derived.ProofKit
import Derived.OpenShut
import Derived.ShutString
import Derived.ChangeOld
import Derived.Below
import Derived.Carry
import Derived.Lib.SmallJoins
import Derived.Deep.RegionWith
import Derived.Deep.RegionHeld3
import Derived.LaidMore
import Derived.LaidLaws
import Derived.Stop.Joined
import Derived.SevenTiedAt
set_option maxHeartbeats 8000000
set_option maxRecDepth 100000
namespace Go.Proofs.YtdedoeeekcfkpaaDoor.queueOwn
open Go.ChangeShapes Go.WideShapes Go.ChangeAt Go.RowKit Go.Joins
set_option linter.unusedVariables false
set_option linter.unusedSimpArgs false
theorem own:ownKnob Tryd.prog.godebug=none:=by kernel_rfl
theorem laidOut:laidOutB Tryd.prog=true:=by kernel_rfl
theorem arr11 {α:Type} {cs:Array α} (h:cs.size=11):∃ c0 c1 c2 c3 c4 c5 c6 c7 c8 c9 c10,cs=#[c0,c1,c2,c3,c4,c5,c6,c7,c8,c9,c10]:=by
 obtain⟨l⟩:=cs
 match l,h with
 | [c0,c1,c2,c3,c4,c5,c6,c7,c8,c9,c10],_=>exact⟨c0,c1,c2,c3,c4,c5,c6,c7,c8,c9,c10,rfl⟩
theorem walk (w:World) (hK:Longer w) (a0_0:Int) (w0_0:(Lit.int .i64 a0_0).wf=true) (a0_1:Int) (w0_1:(Lit.int .u32 a0_1).wf=true) (a0_2:Bool) (a0_3:Bool) (a0_4:Bool) (a0_5:Bool) (a0_6:Bool) (a0_7:Int) (w0_7:(Lit.int .u8 a0_7).wf=true) (a0_8:Int) (w0_8:(Lit.int .u8 a0_8).wf=true) (a0_9:Int) (w0_9:(Lit.int .u32 a0_9).wf=true) (a0_10:Option Addr) (cap0_10:Nat) (l0_10:List Nat) (h0_10:Bs w a0_10 cap0_10 l0_10) (n0_10:a0_10=none->cap0_10=0) :
    Calls Tryd.prog 7 #[.agg #[.int .i64 a0_0,.int .u32 a0_1,.bool a0_2,.bool a0_3,.bool a0_4,.bool a0_5,.bool a0_6,.int .u8 a0_7,.int .u8 a0_8,.int .u32 a0_9,.slice a0_10 l0_10.length cap0_10]] w fun e w'=>e = .returned (.bool true)/\Nb w w':=by
 have hL0:=h0_10.len
 have hW:WdX ⟨a0_0,a0_1,a0_2,a0_3,a0_4,a0_5,a0_6,a0_7,a0_8,a0_9⟩:=by
  simp[Lit.wf,IntKind.min,IntKind.max,IntKind.signed,IntKind.bits] at w0_1 w0_7 w0_8 w0_9
  simp only[WdX]
  omega
 have HA:=Lib.hid h0_10
 have HN0:=Lib.hid n0_10
 have HK:=Lib.hid hK
 have AL:=Lib.hid (fun w' (n:Nb w w')=>alive14_any w' (hK.below n))
 obtain⟨fh,hfe⟩:∃ fh:Hd,fh=⟨a0_0,a0_1,a0_2,a0_3,a0_4,a0_5,a0_6,a0_7,a0_8,a0_9⟩:=⟨_,rfl⟩
 have hcs0:∀ v,fh.cs v=#[.int .i64 a0_0,.int .u32 a0_1,.bool a0_2,.bool a0_3,.bool a0_4,.bool a0_5,.bool a0_6,.int .u8 a0_7,.int .u8 a0_8,.int .u32 a0_9,v]:=fun v=>by rw[hfe];rfl
 have hit:∀ v,itV ⟨1,fh,l0_10⟩ v = .agg #[.int .i64 1,.int .i64 a0_0,.int .u32 a0_1,.bool a0_2,.bool a0_3,.bool a0_4,.bool a0_5,.bool a0_6,.int .u8 a0_7,.int .u8 a0_8,.int .u32 a0_9,v]:=fun v=>by rw[hfe];rfl
 rw[<- hfe] at hW
 have HFE:=Lib.hid hfe
 obtain⟨W0,hW0⟩:∃ W0,W0=w.alloc (.cells #[.int .i64 a0_0,.int .u32 a0_1,.bool a0_2,.bool a0_3,.bool a0_4,.bool a0_5,.bool a0_6,.int .u8 a0_7,.int .u8 a0_8,.int .u32 a0_9,.slice a0_10 l0_10.length cap0_10] 36):=⟨_,rfl⟩
 have QF:=Lib.hid (show Blk W0 w.heap.size #[.int .i64 a0_0,.int .u32 a0_1,.bool a0_2,.bool a0_3,.bool a0_4,.bool a0_5,.bool a0_6,.int .u8 a0_7,.int .u8 a0_8,.int .u32 a0_9,.slice a0_10 l0_10.length cap0_10] 36 by rw[hW0];exact Blk.new _ _ _)
 have M0:=Lib.hid (show Nb w W0 by rw[hW0];exact Nb.rfl.al _)
 have HW0:=Lib.hid hW0
 have F0:=Lib.hid (fun w' (n:Nb w w')=>by
  have h:=check5_any fh a0_10 cap0_10 l0_10 w' (HA.out.below n) (HK.out.below n)
  rw[hcs0] at h
  exact h)
 clear hK h0_10 w0_0 w0_1 w0_7 w0_8 w0_9 n0_10 hW0
 by_cases hbig:3000 < l0_10.length
 ·have d0:decide ((3000:Int) < (l0_10.length:Int))=true:=decide_eq_true (by omega)
  clear hbig hW hfe hcs0 hit F0
  go_enter Tryd.func7,Tryd.ntmps7
  go_wp2_with fail
  rw[<- HW0.out]
  refine (AL.out _ M0.out).mono ?_
  rintro e w1 ⟨rfl,n1⟩
  have K1:=Lib.hid n1
  clear n1
  obtain⟨c0,c1,c2,c3,c4,c5,c6,c7,c8,c9,c10⟩:=(QF.out.nb K1.out).c11
  go_wp2
  go_ret
  exact⟨rfl,M0.out.tr K1.out⟩
 have d0:decide ((3000:Int) < (l0_10.length:Int))=false:=decide_eq_false (by omega)
 have hl3:l0_10.length<=3000:=by omega
 clear hbig
 cases hok:okF fh l0_10 with
 | false =>
   rw[show checkN fh l0_10=2 by simp[checkN,hok]] at F0
   clear hok hW hfe hcs0 hit
   go_enter Tryd.func7,Tryd.ntmps7
   go_wp2_with fail
   rw[<- HW0.out]
   refine (AL.out _ M0.out).mono ?_
   rintro e w1 ⟨rfl,n1⟩
   have K1:=Lib.hid n1
   clear n1
   obtain⟨c0,c1,c2,c3,c4,c5,c6,c7,c8,c9,c10⟩:=(QF.out.nb K1.out).c11
   go_wp2_with fail
   refine (F0.out _ (M0.out.tr K1.out)).mono ?_
   rintro e w2 ⟨rfl,n2⟩
   have K2:=Lib.hid (K1.out.tr n2)
   go_wp2
   go_ret
   exact⟨rfl,M0.out.tr K2.out⟩
 | true =>
   rw[show checkN fh l0_10=0 by simp[checkN,hok]] at F0
   have hpe:(⟨2,0,[]⟩:Qu).putE fh l0_10=0:=by unfold Qu.putE;rw[if_neg (by simp[hok]),if_neg (by simp)]
   have hpn:(⟨2,0,[]⟩:Qu).putN fh l0_10=1:=by unfold Qu.putN;rw[if_pos hpe]
   have hpq:(⟨2,0,[]⟩:Qu).put fh l0_10=⟨2,1,[⟨1,fh,l0_10⟩]⟩:=by rw[Qu.put_go hpe];rfl
   have CP:=Lib.hid (fun w' (n:Nb w w')=>by
    have h:=copy_all fh a0_10 cap0_10 l0_10 w' (HA.out.below n) (by omega)
    simp only[hcs0] at h
    exact h)
   have hput:=fun w' v X (h:QuX W0 w' v ⟨2,0,[]⟩ X) a c (hb:Bs w' a c l0_10) (hn:a=none->c=0)=>h.put fh a c l0_10 (HK.out.below (M0.out.tr h.nb)) hb hn hW (show (0:Nat)<=1000000 by omega)
   rw[hpe,hpn,hpq] at hput
   simp only[hcs0] at hput
   have HPT:=Lib.hid hput
   have HCS:=Lib.hid hcs0
   have HIT:=Lib.hid hit
   clear hok hpe hpn hpq hput hcs0 hit hW hfe
   go_enter Tryd.func7,Tryd.ntmps7
   go_wp2_with fail
   rw[<- HW0.out]
   refine (AL.out _ M0.out).mono ?_
   rintro e w1 ⟨rfl,n1⟩
   have K1:=Lib.hid n1
   clear n1
   obtain⟨c0,c1,c2,c3,c4,c5,c6,c7,c8,c9,c10⟩:=(QF.out.nb K1.out).c11
   go_wp2_with fail
   refine (F0.out _ (M0.out.tr K1.out)).mono ?_
   rintro e w2 ⟨rfl,n2⟩
   have K2:=Lib.hid (K1.out.tr n2)
   clear n2 c0 c1 c2 c3 c4 c5 c6 c7 c8 c9 c10 F0
   obtain⟨c0,c1,c2,c3,c4,c5,c6,c7,c8,c9,c10⟩:=(QF.out.nb K2.out).c11
   go_wp2_with fail
   refine (newQ_any 2 (by omega) _ (HK.out.below (M0.out.tr K2.out))).mono ?_
   rintro e w3 ⟨R,F,rfl,g1,g2,g3⟩
   have N3:=Lib.hid (show QuX W0 w3 _ (⟨2,0,[]⟩:Qu) noX from QuX.new g1 g2 g3 K2.out)
   generalize Value.pointer (some ⟨R,0,none⟩)=vq at *
   clear g1 g2 g3 c0 c1 c2 c3 c4 c5 c6 c7 c8 c9 c10
   obtain⟨c0,c1,c2,c3,c4,c5,c6,c7,c8,c9,c10⟩:=(QF.out.nb N3.out.nb).c11
   go_wp2_with fail
   refine (CP.out _ (M0.out.tr N3.out.nb)).mono ?_
   rintro e w4 ⟨⟨aI,cI,rfl,fI⟩,n4⟩
   obtain⟨QI,hQI⟩:∃ Q,Q=w4.heap.size:=⟨_,rfl⟩
   obtain⟨u4,hu⟩:∃ u,u=w4.alloc (.cells #[.int .i64 a0_0,.int .u32 a0_1,.bool a0_2,.bool a0_3,.bool a0_4,.bool a0_5,.bool a0_6,.int .u8 a0_7,.int .u8 a0_8,.int .u32 a0_9,.slice aI l0_10.length cI] 36):=⟨_,rfl⟩
   obtain⟨XI,hXI⟩:∃ X:Nat->Prop,X=fun k=>Value.ownBlock (.slice aI l0_10.length cI)=some k:=⟨_,rfl⟩
   have hown:=fI.1
   have hXlt:∀ k,XI k->w3.heap.size<=k/\k < w4.heap.size:=fun k hk=>by rw[hXI] at hk;exact⟨fI.2 k hk,hown.lt hk⟩
   have N4:=Lib.hid (show QuX W0 u4 vq (⟨2,0,[]⟩:Qu) (fun k=>XI k\/k=QI) by rw[hu,hQI];exact ((N3.out.add n4 hXlt).addB _ _).less (fun k hk=>by rcases hk with h | h;exact .inl (.inr h);exact .inr h))
   have DI:=Lib.hid (show DatP u4 aI cI l0_10 XI by rw[hu];exact (hown.dat (fun g hg=>by rw[hXI];exact hg)).nb (Nb.rfl.al _))
   have BI:=Lib.hid (show Blk u4 QI #[.int .i64 a0_0,.int .u32 a0_1,.bool a0_2,.bool a0_3,.bool a0_4,.bool a0_5,.bool a0_6,.int .u8 a0_7,.int .u8 a0_8,.int .u32 a0_9,.slice aI l0_10.length cI] 36 by rw[hu,hQI];exact Blk.new _ _ _)
   have HXI:=Lib.hid (show ∀ k,XI k->W0.heap.size<=k/\k < QI from fun k hk=>by
    have h1:=hXlt k hk
    have h2:=N3.out.nb.size
    omega)
   have HQI:=Lib.hid (show W0.heap.size<=QI by rw[hQI];exact Nat.le_trans N3.out.nb.size n4.size)
   have NI:=Lib.hid (show aI=none->cI=0 from fun h=>by
    subst h
    by_cases h0:0 < l0_10.length
    ·obtain⟨g,c,hs⟩:=hown.shape h0
     simp at hs
    ·have:=DI.out.1.hcap
     rcases hown.1.2 with ⟨h1,_⟩ | ⟨g,c,_,h1,_⟩
     ·simp only[Value.slice.injEq] at h1
      omega
     ·simp at h1)
   have HU:=Lib.hid hu
   have HQ:=Lib.hid hQI
   clear hu hQI hXI hown hXlt fI n4 N3 c0 c1 c2 c3 c4 c5 c6 c7 c8 c9 c10 CP
   have hpp:=HPT.out _ vq _ N4.out aI cI DI.out.1 NI.out
   have HPP:=Lib.hid hpp
   clear hpp HPT NI
   go_wp2_with fail
   rw[<- HU.out,<- HQ.out]
   refine HPP.out.mono ?_
   rintro e w5 ⟨G,rfl,gk,gX,hn⟩
   have N5:=Lib.hid hn
   have MI:=Lib.hid ((DI.out.keep gk (fun k hk=>gX k (.inl hk))).mut)
   have BI5:=Lib.hid (BI.out.keep gk (gX _ (.inr rfl)))
   clear hn gk gX HPP DI BI HU HQ N4
   have i10:=BI5.out.cell 10
   simp only[List.getElem?_toArray,List.getElem?_cons_zero,List.getElem?_cons_succ] at i10
   go_wp2
   clear i10
   go_loopw [43] (fun ix wr=>∃ k:Nat,k<=l0_10.length/\ix = .int .i64 k/\QuX W0 wr vq ⟨2,1,[⟨1,fh,l0_10⟩]⟩ (fun k=>XI k\/k=QI)/\MutS wr aI cI l0_10.length XI/\Blk wr QI #[.int .i64 a0_0,.int .u32 a0_1,.bool a0_2,.bool a0_3,.bool a0_4,.bool a0_5,.bool a0_6,.int .u8 a0_7,.int .u8 a0_8,.int .u32 a0_9,.slice aI l0_10.length cI] 36) (fun ix _=>l0_10.length - (intOf ix).toNat)
   case atStart=>exact⟨0,Nat.zero_le _,rfl,N5.out,MI.out,BI5.out⟩
   case round =>
    obtain⟨k,hk,rfl,hN,hM,hB⟩:=hrel
    have N:=Lib.hid hN
    have M:=Lib.hid hM
    have B:=Lib.hid hB
    clear hN hM hB N5 MI BI5
    by_cases hlt:k < l0_10.length
    ·have hlt':decide ((k:Int) < (l0_10.length:Int))=true:=decide_eq_true (by omega)
     obtain⟨b,of,x,rfl,hXb,hcp,hcm,hx,hc,hfz,hbl,hput⟩:=M.out.at hlt
     have i10:=B.out.cell 10
     simp only[List.getElem?_toArray,List.getElem?_cons_zero,List.getElem?_cons_succ] at i10
     have hbq:=(HXI.out b hXb)
     have kp:Kp (fun y=>y=b) wr (wr.setCell ⟨b,of+k,none⟩ (.int .u8 ((x+1)%256:Nat))):=Kp.set (F:=fun y=>y=b) rfl
     have R1:=Lib.hid (N.out.keepX kp (fun y hy=>by subst hy;exact⟨.inl hXb,hbq.1⟩))
     have R2:=Lib.hid (hput ((x+1)%256) (Nat.mod_lt _ (by omega)))
     have R3:=Lib.hid (B.out.keep kp (show ¬QI=b by omega))
     have hpc:(((x+1)%256:Nat):Int)=((x:Int)+1)%256:=by push_cast;rfl
     rw[hpc] at R1 R2 R3
     clear hput kp hpc
     go_wp2
     go_roundw
     case rel=>exact⟨k+1,by omega,by go_num,R1.out,R2.out,R3.out⟩
     case measure=>simp[intOf];omega
    ·have hlt':decide ((k:Int) < (l0_10.length:Int))=false:=decide_eq_false (by omega)
     have NN:=Lib.hid (N.out.less (Y:=noX) (fun k hk=>hk.elim))
     clear N M B HXI HQI
     go_wp2_with fail
     refine (NN.out.all (HK.out.below (M0.out.tr NN.out.nb))).mono ?_
     rintro e w6 ⟨aA,cA,P3,rfl,hit,hP3,n6,hN6⟩
     have I6:=Lib.hid hit
     have HP3:=Lib.hid (show ∀ k,P3 k->W0.heap.size<=k/\k < w6.heap.size from fun k hk=>⟨Nat.le_trans NN.out.nb.size (hP3 k hk).1,(hP3 k hk).2⟩)
     have N6:=Lib.hid (hN6.less (Y:=P3) (fun k hk => .inr hk))
     have S6:=Lib.hid (Nat.le_refl w6.heap.size)
     clear hit hP3 n6 hN6 NN
     go_wp2
     go_loopw [57] (fun ix wr=>∃ j:Nat,j<=1/\ix = .int .i64 j/\QuX W0 wr vq (⟨2,1,[⟨1,fh,l0_10⟩]⟩:Qu) P3/\(j=0->ItsAt wr aA cA [⟨1,fh,l0_10⟩] P3/\w6.heap.size<=wr.heap.size)) (fun ix _=>1 - (intOf ix).toNat)
     case atStart=>exact⟨0,by omega,rfl,N6.out,fun _=>⟨I6.out,Nat.le_refl _⟩⟩
     case round =>
      obtain⟨j,hj,rfl,hN,hI⟩:=hrel
      clear N6 I6
      by_cases hj0:j=0
      ·subst hj0
       have hI:=hI rfl
       have I:=Lib.hid hI.1
       have hsz:=hI.2
       have N:=Lib.hid hN
       clear hI hN
       obtain⟨bA,oA,rfl,_⟩:=I.out.hcells (by simp)
       obtain⟨pa,pc,⟨y0,y1,y2,y3,y4,y5,y6,y7,y8,y9,y10,y11⟩,hd⟩:=I.out.at (j:=0) (by simp) (show _=(⟨1,⟨a0_0,a0_1,a0_2,a0_3,a0_4,a0_5,a0_6,a0_7,a0_8,a0_9⟩,l0_10⟩:It) by rw[<- HFE.out];rfl)
       simp only[Nat.zero_mul,Nat.add_zero] at y0 y1 y2 y3 y4 y5 y6 y7 y8 y9 y10 y11
       obtain⟨Qy,hQ⟩:∃ Q,Q=wr.heap.size:=⟨_,rfl⟩
       obtain⟨uB,hu⟩:∃ u,u=wr.alloc (.cells #[.int .i64 1,.int .i64 a0_0,.int .u32 a0_1,.bool a0_2,.bool a0_3,.bool a0_4,.bool a0_5,.bool a0_6,.int .u8 a0_7,.int .u8 a0_8,.int .u32 a0_9,.slice pa l0_10.length pc] 40):=⟨_,rfl⟩
       have NS:=Lib.hid (show QuX W0 uB vq (⟨2,1,[⟨1,fh,l0_10⟩]⟩:Qu) (fun k=>P3 k\/k=Qy) by rw[hu,hQ];exact N.out.addB _ _)
       have MS:=Lib.hid (show MutS uB pa pc l0_10.length P3 by rw[hu];exact (hd.nb (Nb.rfl.al _)).mut)
       have BS:=Lib.hid (show Blk uB Qy #[.int .i64 1,.int .i64 a0_0,.int .u32 a0_1,.bool a0_2,.bool a0_3,.bool a0_4,.bool a0_5,.bool a0_6,.int .u8 a0_7,.int .u8 a0_8,.int .u32 a0_9,.slice pa l0_10.length pc] 40 by rw[hu,hQ];exact Blk.new _ _ _)
       have HPY:=Lib.hid (show ∀ k,P3 k->W0.heap.size<=k/\k < Qy from fun k hk=>by
        have:=HP3.out k hk
        omega)
       have HU:=Lib.hid hu
       have HQ:=Lib.hid hQ
       clear hd hu hQ N I hsz
       go_wp2
       rw[<- HU.out,<- HQ.out]
       go_loopw [65] (fun ix wr=>∃ k:Nat,k<=l0_10.length/\ix = .int .i64 k/\QuX W0 wr vq (⟨2,1,[⟨1,fh,l0_10⟩]⟩:Qu) (fun k=>P3 k\/k=Qy)/\MutS wr pa pc l0_10.length P3/\Blk wr Qy #[.int .i64 1,.int .i64 a0_0,.int .u32 a0_1,.bool a0_2,.bool a0_3,.bool a0_4,.bool a0_5,.bool a0_6,.int .u8 a0_7,.int .u8 a0_8,.int .u32 a0_9,.slice pa l0_10.length pc] 40) (fun ix _=>l0_10.length - (intOf ix).toNat)
       case atStart=>exact⟨0,Nat.zero_le _,rfl,NS.out,MS.out,BS.out⟩
       case round =>
        obtain⟨k,hk,rfl,hN,hM,hB⟩:=hrel
        have N:=Lib.hid hN
        have M:=Lib.hid hM
        have B:=Lib.hid hB
        clear hN hM hB NS MS BS
        by_cases hlt:k < l0_10.length
        ·have hlt':decide ((k:Int) < (l0_10.length:Int))=true:=decide_eq_true (by omega)
         obtain⟨b,of,x,rfl,hXb,hcp,hcm,hx,hc,hfz,hbl,hput⟩:=M.out.at hlt
         have i11:=B.out.cell 11
         simp only[List.getElem?_toArray,List.getElem?_cons_zero,List.getElem?_cons_succ] at i11
         have hbq:=(HPY.out b hXb)
         have kp:Kp (fun y=>y=b) wr (wr.setCell ⟨b,of+k,none⟩ (.int .u8 ((x+1)%256:Nat))):=Kp.set (F:=fun y=>y=b) rfl
         have R1:=Lib.hid (N.out.keepX kp (fun y hy=>by subst hy;exact⟨.inl hXb,hbq.1⟩))
         have R2:=Lib.hid (hput ((x+1)%256) (Nat.mod_lt _ (by omega)))
         have R3:=Lib.hid (B.out.keep kp (show ¬Qy=b by omega))
         have hpc:(((x+1)%256:Nat):Int)=((x:Int)+1)%256:=by push_cast;rfl
         rw[hpc] at R1 R2 R3
         clear hput kp hpc
         go_wp2
         go_roundw
         case rel=>exact⟨k+1,by omega,by go_num,R1.out,R2.out,R3.out⟩
         case measure=>simp[intOf];omega
        ·have hlt':decide ((k:Int) < (l0_10.length:Int))=false:=decide_eq_false (by omega)
         go_wp2
         go_roundw
         case rel=>exact⟨1,by omega,rfl,N.out.less (fun k hk => .inl hk),fun h=>by omega⟩
         case measure=>simp[intOf]
      ·obtain rfl:j=1:=by omega
       clear hI hj0
       have NH:=Lib.hid hN
       clear hN
       have hhd:=NH.out.head (HK.out.below (M0.out.tr NH.out.nb))
       rw[show ((⟨2,1,[⟨1,fh,l0_10⟩]⟩:Qu)).head=⟨1,fh,l0_10⟩ from rfl,show ((⟨2,1,[⟨1,fh,l0_10⟩]⟩:Qu)).headE=0 from rfl] at hhd
       simp only[HIT.out] at hhd
       have HHD:=Lib.hid hhd
       clear hhd
       go_wp2_with fail
       refine HHD.out.mono ?_
       rintro e wB ⟨ah,ch,Ph,Gh,rfl,dh,_,_,hPh,hn⟩
       obtain⟨Qh,hQ⟩:∃ Q,Q=wB.heap.size:=⟨_,rfl⟩
       obtain⟨uB,hu⟩:∃ u,u=wB.alloc (.cells #[.int .i64 1,.int .i64 a0_0,.int .u32 a0_1,.bool a0_2,.bool a0_3,.bool a0_4,.bool a0_5,.bool a0_6,.int .u8 a0_7,.int .u8 a0_8,.int .u32 a0_9,.slice ah l0_10.length ch] 40):=⟨_,rfl⟩
       have NS:=Lib.hid (show QuX W0 uB vq (⟨2,1,[⟨1,fh,l0_10⟩]⟩:Qu) (fun k=>Ph k\/k=Qh) by rw[hu,hQ];exact (hn.addB _ _).less (fun k hk=>by rcases hk with h | h;exact .inl (.inr h);exact .inr h))
       have MS:=Lib.hid (show MutS uB ah ch l0_10.length Ph by rw[hu];exact (dh.nb (Nb.rfl.al _)).mut)
       have BS:=Lib.hid (show Blk uB Qh #[.int .i64 1,.int .i64 a0_0,.int .u32 a0_1,.bool a0_2,.bool a0_3,.bool a0_4,.bool a0_5,.bool a0_6,.int .u8 a0_7,.int .u8 a0_8,.int .u32 a0_9,.slice ah l0_10.length ch] 40 by rw[hu,hQ];exact Blk.new _ _ _)
       have HPH:=Lib.hid (show ∀ k,Ph k->W0.heap.size<=k/\k < Qh from fun k hk=>⟨(hPh k hk).1,by
        obtain⟨_,_,_,h3,_⟩:=hn
        rw[hQ]
        exact h3 k (.inr hk)⟩)
       have HU:=Lib.hid hu
       have HQ:=Lib.hid hQ
       clear hn dh hPh hu hQ HHD NH
       go_wp2
       rw[<- HU.out,<- HQ.out]
       go_loopw [87] (fun ix wr=>∃ k:Nat,k<=l0_10.length/\ix = .int .i64 k/\QuX W0 wr vq (⟨2,1,[⟨1,fh,l0_10⟩]⟩:Qu) (fun k=>Ph k\/k=Qh)/\MutS wr ah ch l0_10.length Ph/\Blk wr Qh #[.int .i64 1,.int .i64 a0_0,.int .u32 a0_1,.bool a0_2,.bool a0_3,.bool a0_4,.bool a0_5,.bool a0_6,.int .u8 a0_7,.int .u8 a0_8,.int .u32 a0_9,.slice ah l0_10.length ch] 40) (fun ix _=>l0_10.length - (intOf ix).toNat)
       case atStart=>exact⟨0,Nat.zero_le _,rfl,NS.out,MS.out,BS.out⟩
       case round =>
        obtain⟨k,hk,rfl,hN,hM,hB⟩:=hrel
        have N:=Lib.hid hN
        have M:=Lib.hid hM
        have B:=Lib.hid hB
        clear hN hM hB NS MS BS
        by_cases hlt:k < l0_10.length
        ·have hlt':decide ((k:Int) < (l0_10.length:Int))=true:=decide_eq_true (by omega)
         obtain⟨b,of,x,rfl,hXb,hcp,hcm,hx,hc,hfz,hbl,hput⟩:=M.out.at hlt
         have i11:=B.out.cell 11
         simp only[List.getElem?_toArray,List.getElem?_cons_zero,List.getElem?_cons_succ] at i11
         have hbq:=(HPH.out b hXb)
         have kp:Kp (fun y=>y=b) wr (wr.setCell ⟨b,of+k,none⟩ (.int .u8 ((x+1)%256:Nat))):=Kp.set (F:=fun y=>y=b) rfl
         have R1:=Lib.hid (N.out.keepX kp (fun y hy=>by subst hy;exact⟨.inl hXb,hbq.1⟩))
         have R2:=Lib.hid (hput ((x+1)%256) (Nat.mod_lt _ (by omega)))
         have R3:=Lib.hid (B.out.keep kp (show ¬Qh=b by omega))
         have hpc:(((x+1)%256:Nat):Int)=((x:Int)+1)%256:=by push_cast;rfl
         rw[hpc] at R1 R2 R3
         clear hput kp hpc
         go_wp2
         go_roundw
         case rel=>exact⟨k+1,by omega,by go_num,R1.out,R2.out,R3.out⟩
         case measure=>simp[intOf];omega
        ·have hlt':decide ((k:Int) < (l0_10.length:Int))=false:=decide_eq_false (by omega)
         have NT:=Lib.hid (N.out.less (Y:=noX) (fun k hk=>hk.elim))
         clear N M B
         have htk:=NT.out.take (HK.out.below (M0.out.tr NT.out.nb))
         rw[show ((⟨2,1,[⟨1,fh,l0_10⟩]⟩:Qu)).head=⟨1,fh,l0_10⟩ from rfl,show ((⟨2,1,[⟨1,fh,l0_10⟩]⟩:Qu)).headE=0 from rfl] at htk
         simp only[HIT.out] at htk
         have HTK:=Lib.hid htk
         clear htk
         go_wp2_with fail
         refine HTK.out.mono ?_
         rintro e wE ⟨ax,cx,Px,Gx,rfl,dx,_,_,_,hn⟩
         have NE:=Lib.hid hn.nb
         have BZ:=Lib.hid (Blk.new wE #[.int .i64 1,.int .i64 a0_0,.int .u32 a0_1,.bool a0_2,.bool a0_3,.bool a0_4,.bool a0_5,.bool a0_6,.int .u8 a0_7,.int .u8 a0_8,.int .u32 a0_9,.slice ax l0_10.length cx] 40)
         have HS:=Lib.hid (fun w' (n:Nb wE w')=>by
          have h:=same5_any fh fh ax a0_10 cx cap0_10 l0_10 l0_10 w' (dx.1.below n) (HA.out.below (M0.out.tr (NE.out.tr n)))
          rw[sameF_rfl] at h
          simp only[HCS.out] at h
          exact h)
         obtain⟨c0,c1,c2,c3,c4,c5,c6,c7,c8,c9,c10⟩:=(QF.out.nb NE.out).c11
         have hq:=(QF.out.nb NE.out).lt
         clear hn dx HTK NT
         go_wp2_with fail
         refine (HS.out _ (Nb.rfl.al _)).mono ?_
         rintro e wF ⟨rfl,n⟩
         have NF:=Lib.hid ((NE.out.al _).tr n)
         clear n
         go_wp2
         go_ret
         exact⟨rfl,M0.out.tr NF.out⟩
theorem door_met (os:Os) (args:Array Value):laidMetH Tryd.prog Rows.queueOwnRow.laid ((World.doorLaid Tryd.prog 24 os).forCall (fun _ _=>0) ⟨#[],args,[]⟩).memory :=
 laidMetH_of_parts3 (fuel:=8) (laidMet_of_run' 8 (by kernel_rfl) (by kernel_rfl)) (by kernel_rfl) (by kernel_rfl)
theorem lifted (os:Os) (started:os.Started) (H:Type) (enc:TypeId × Value->H) :
    ReturnsInHanded {} Tryd.checked os 7 .any (fun w args=>(Rows.queueOwnSpec.pre enc Tryd.prog Tryd.f7 [] false w args/\laidMetH Tryd.prog Rows.queueOwnRow.laid w)/\sizedMet enc Tryd.prog Tryd.f7 (OpenSpec.ofChange Rows.queueOwnSpec) false w args)
     (Rows.queueOwnSpec.post enc Tryd.prog Tryd.f7 false true false false):=by
 refine returnsInHanded_of_change_and (C:=Tryd.checked) (X:=fun w _=>laidMetH Tryd.prog Rows.queueOwnRow.laid w) (fun _ _ _ hh h=>h.of_heap hh) own started (by kernel_rfl) Tryd.func7
  (ChangeSpec.witness_shaped (enc:=enc) (C:=Tryd.checked) (os:=os) (X:=fun w _=>laidMetH Tryd.prog Rows.queueOwnRow.laid w) false (World.doorLaid Tryd.prog 24 os) #[.agg #[.int .i64 0,.int .u32 0,.bool false,.bool false,.bool false,.bool false,.bool false,.int .u8 0,.int .u8 0,.int .u32 0,.slice none 0 0]] 8 rfl (World.shaped_of_RefB (by kernel_rfl) (by kernel_rfl)) (by kernel_rfl) (by kernel_rfl) (by kernel_rfl) (door_met os _)) ?_
 intro W base args ds gs before hval0 hW _ hR hL _
 have hval:∀ (j:Nat) t v,Tryd.f7.params[j]? = some t->args[j]? = some v->Value.okWide Tryd.prog W .any base t v:=hval0
 have hW':=hW
 obtain⟨p,q,hA0,hV,rfl,hfz,hnd⟩:=hW
 have hA:DataW.TrodAll enc Tryd.prog W 0 (fun _=>true) true Tryd.f7.params.toList args.toList ds p:=hA0
 rw[Tryd.params7] at hA hval
 obtain⟨v0,vs0,d0,ds0,p0,q0,hargs,rfl,rfl,h0,r0⟩:=trodAll_cons hA
 obtain⟨rfl,rfl,rfl⟩:=trodAll_nil r0
 obtain rfl:args=#[v0]:=by cases args;simp_all
 obtain⟨rfl,rfl⟩:=trodVars_none hV
 have k0:=h0
 have lt0:∀ x∈p0,x.block < W.heap.size:=by obtain⟨m,hm⟩:=k0;exact DataW.trod_lt m _ _ _ hm
 clear hA0
 obtain⟨cs0,rfl,hz0⟩:=okWide_struct Tryd.underlying36 (hval 0 36 v0 rfl rfl)
 obtain⟨c0_0,c0_1,c0_2,c0_3,c0_4,c0_5,c0_6,c0_7,c0_8,c0_9,c0_10,rfl⟩:=arr11 (hz0.trans (by kernel_rfl))
 obtain⟨fu0,hf0⟩:=h0
 have hc0:DataW.trod enc Tryd.prog W 0 (fun _=>true) true fu0 36 [c0_0,c0_1,c0_2,c0_3,c0_4,c0_5,c0_6,c0_7,c0_8,c0_9,c0_10]=some (d0,p0):=hf0
 obtain⟨m0_0,y0_0,g0_0⟩:=open_fld Tryd.underlying36 hc0 0 _ rfl
 have t0_0:DataW.trod enc Tryd.prog W 0 (fun _=>true) true m0_0 3 (([c0_0,c0_1,c0_2,c0_3,c0_4,c0_5,c0_6,c0_7,c0_8,c0_9,c0_10].drop 0).take (Tryd.prog.cellsOf 3))=some y0_0:=g0_0
 rw[show Tryd.prog.cellsOf 3=1 from by kernel_rfl] at t0_0
 have u0_0:DataW.trod enc Tryd.prog W 0 (fun _=>true) true m0_0 3 [c0_0]=some y0_0:=t0_0
 obtain⟨m0_1,y0_1,g0_1⟩:=open_fld Tryd.underlying36 hc0 1 _ rfl
 have t0_1:DataW.trod enc Tryd.prog W 0 (fun _=>true) true m0_1 33 (([c0_0,c0_1,c0_2,c0_3,c0_4,c0_5,c0_6,c0_7,c0_8,c0_9,c0_10].drop 1).take (Tryd.prog.cellsOf 33))=some y0_1:=g0_1
 rw[show Tryd.prog.cellsOf 33=1 from by kernel_rfl] at t0_1
 have u0_1:DataW.trod enc Tryd.prog W 0 (fun _=>true) true m0_1 33 [c0_1]=some y0_1:=t0_1
 obtain⟨m0_2,y0_2,g0_2⟩:=open_fld Tryd.underlying36 hc0 2 _ rfl
 have t0_2:DataW.trod enc Tryd.prog W 0 (fun _=>true) true m0_2 4 (([c0_0,c0_1,c0_2,c0_3,c0_4,c0_5,c0_6,c0_7,c0_8,c0_9,c0_10].drop 2).take (Tryd.prog.cellsOf 4))=some y0_2:=g0_2
 rw[show Tryd.prog.cellsOf 4=1 from by kernel_rfl] at t0_2
 have u0_2:DataW.trod enc Tryd.prog W 0 (fun _=>true) true m0_2 4 [c0_2]=some y0_2:=t0_2
 obtain⟨m0_3,y0_3,g0_3⟩:=open_fld Tryd.underlying36 hc0 3 _ rfl
 have t0_3:DataW.trod enc Tryd.prog W 0 (fun _=>true) true m0_3 4 (([c0_0,c0_1,c0_2,c0_3,c0_4,c0_5,c0_6,c0_7,c0_8,c0_9,c0_10].drop 3).take (Tryd.prog.cellsOf 4))=some y0_3:=g0_3
 rw[show Tryd.prog.cellsOf 4=1 from by kernel_rfl] at t0_3
 have u0_3:DataW.trod enc Tryd.prog W 0 (fun _=>true) true m0_3 4 [c0_3]=some y0_3:=t0_3
 obtain⟨m0_4,y0_4,g0_4⟩:=open_fld Tryd.underlying36 hc0 4 _ rfl
 have t0_4:DataW.trod enc Tryd.prog W 0 (fun _=>true) true m0_4 4 (([c0_0,c0_1,c0_2,c0_3,c0_4,c0_5,c0_6,c0_7,c0_8,c0_9,c0_10].drop 4).take (Tryd.prog.cellsOf 4))=some y0_4:=g0_4
 rw[show Tryd.prog.cellsOf 4=1 from by kernel_rfl] at t0_4
 have u0_4:DataW.trod enc Tryd.prog W 0 (fun _=>true) true m0_4 4 [c0_4]=some y0_4:=t0_4
 obtain⟨m0_5,y0_5,g0_5⟩:=open_fld Tryd.underlying36 hc0 5 _ rfl
 have t0_5:DataW.trod enc Tryd.prog W 0 (fun _=>true) true m0_5 4 (([c0_0,c0_1,c0_2,c0_3,c0_4,c0_5,c0_6,c0_7,c0_8,c0_9,c0_10].drop 5).take (Tryd.prog.cellsOf 4))=some y0_5:=g0_5
 rw[show Tryd.prog.cellsOf 4=1 from by kernel_rfl] at t0_5
 have u0_5:DataW.trod enc Tryd.prog W 0 (fun _=>true) true m0_5 4 [c0_5]=some y0_5:=t0_5
 obtain⟨m0_6,y0_6,g0_6⟩:=open_fld Tryd.underlying36 hc0 6 _ rfl
 have t0_6:DataW.trod enc Tryd.prog W 0 (fun _=>true) true m0_6 4 (([c0_0,c0_1,c0_2,c0_3,c0_4,c0_5,c0_6,c0_7,c0_8,c0_9,c0_10].drop 6).take (Tryd.prog.cellsOf 4))=some y0_6:=g0_6
 rw[show Tryd.prog.cellsOf 4=1 from by kernel_rfl] at t0_6
 have u0_6:DataW.trod enc Tryd.prog W 0 (fun _=>true) true m0_6 4 [c0_6]=some y0_6:=t0_6
 obtain⟨m0_7,y0_7,g0_7⟩:=open_fld Tryd.underlying36 hc0 7 _ rfl
 have t0_7:DataW.trod enc Tryd.prog W 0 (fun _=>true) true m0_7 5 (([c0_0,c0_1,c0_2,c0_3,c0_4,c0_5,c0_6,c0_7,c0_8,c0_9,c0_10].drop 7).take (Tryd.prog.cellsOf 5))=some y0_7:=g0_7
 rw[show Tryd.prog.cellsOf 5=1 from by kernel_rfl] at t0_7
 have u0_7:DataW.trod enc Tryd.prog W 0 (fun _=>true) true m0_7 5 [c0_7]=some y0_7:=t0_7
 obtain⟨m0_8,y0_8,g0_8⟩:=open_fld Tryd.underlying36 hc0 8 _ rfl
 have t0_8:DataW.trod enc Tryd.prog W 0 (fun _=>true) true m0_8 5 (([c0_0,c0_1,c0_2,c0_3,c0_4,c0_5,c0_6,c0_7,c0_8,c0_9,c0_10].drop 8).take (Tryd.prog.cellsOf 5))=some y0_8:=g0_8
 rw[show Tryd.prog.cellsOf 5=1 from by kernel_rfl] at t0_8
 have u0_8:DataW.trod enc Tryd.prog W 0 (fun _=>true) true m0_8 5 [c0_8]=some y0_8:=t0_8
 obtain⟨m0_9,y0_9,g0_9⟩:=open_fld Tryd.underlying36 hc0 9 _ rfl
 have t0_9:DataW.trod enc Tryd.prog W 0 (fun _=>true) true m0_9 33 (([c0_0,c0_1,c0_2,c0_3,c0_4,c0_5,c0_6,c0_7,c0_8,c0_9,c0_10].drop 9).take (Tryd.prog.cellsOf 33))=some y0_9:=g0_9
 rw[show Tryd.prog.cellsOf 33=1 from by kernel_rfl] at t0_9
 have u0_9:DataW.trod enc Tryd.prog W 0 (fun _=>true) true m0_9 33 [c0_9]=some y0_9:=t0_9
 obtain⟨m0_10,y0_10,g0_10⟩:=open_fld Tryd.underlying36 hc0 10 _ rfl
 have t0_10:DataW.trod enc Tryd.prog W 0 (fun _=>true) true m0_10 34 (([c0_0,c0_1,c0_2,c0_3,c0_4,c0_5,c0_6,c0_7,c0_8,c0_9,c0_10].drop 10).take (Tryd.prog.cellsOf 34))=some y0_10:=g0_10
 rw[show Tryd.prog.cellsOf 34=1 from by kernel_rfl] at t0_10
 have u0_10:DataW.trod enc Tryd.prog W 0 (fun _=>true) true m0_10 34 [c0_10]=some y0_10:=t0_10
 obtain⟨a0_0,e0_0,x0_0,w0_0⟩:=DataW.trod_int Tryd.underlying3 u0_0
 obtain rfl:c0_0 = .int .i64 a0_0:=by simpa using e0_0
 obtain⟨a0_1,e0_1,x0_1,w0_1⟩:=DataW.trod_int Tryd.underlying33 u0_1
 obtain rfl:c0_1 = .int .u32 a0_1:=by simpa using e0_1
 obtain⟨a0_2,e0_2,x0_2⟩:=DataW.trod_bool Tryd.underlying4 u0_2
 obtain rfl:c0_2 = .bool a0_2:=by simpa using e0_2
 obtain⟨a0_3,e0_3,x0_3⟩:=DataW.trod_bool Tryd.underlying4 u0_3
 obtain rfl:c0_3 = .bool a0_3:=by simpa using e0_3
 obtain⟨a0_4,e0_4,x0_4⟩:=DataW.trod_bool Tryd.underlying4 u0_4
 obtain rfl:c0_4 = .bool a0_4:=by simpa using e0_4
 obtain⟨a0_5,e0_5,x0_5⟩:=DataW.trod_bool Tryd.underlying4 u0_5
 obtain rfl:c0_5 = .bool a0_5:=by simpa using e0_5
 obtain⟨a0_6,e0_6,x0_6⟩:=DataW.trod_bool Tryd.underlying4 u0_6
 obtain rfl:c0_6 = .bool a0_6:=by simpa using e0_6
 obtain⟨a0_7,e0_7,x0_7,w0_7⟩:=DataW.trod_int Tryd.underlying5 u0_7
 obtain rfl:c0_7 = .int .u8 a0_7:=by simpa using e0_7
 obtain⟨a0_8,e0_8,x0_8,w0_8⟩:=DataW.trod_int Tryd.underlying5 u0_8
 obtain rfl:c0_8 = .int .u8 a0_8:=by simpa using e0_8
 obtain⟨a0_9,e0_9,x0_9,w0_9⟩:=DataW.trod_int Tryd.underlying33 u0_9
 obtain rfl:c0_9 = .int .u32 a0_9:=by simpa using e0_9
 obtain⟨a0_10,cap0_10,l0_10,e0_10,hb0_10,n0_10⟩:=bytes_open u0_10
 subst e0_10
 refine (walk W (longer_of hL) a0_0 w0_0 a0_1 w0_1 a0_2 a0_3 a0_4 a0_5 a0_6 a0_7 w0_7 a0_8 w0_8 a0_9 w0_9 a0_10 cap0_10 l0_10 hb0_10 n0_10).mono fun e W' ⟨he,bel⟩ => ?_
 subst he
 exact⟨_,rfl,_,_,_,[],_,[],hW',trodAll_mk1 (shut_bool Tryd.underlying4 _),(trodAll_cons_mk (Below.trod laidOut (by kernel_rfl) (of_decide_eq_true (by kernel_rfl)) k0 bel lt0) trodAll_mk0),rfl,bel.frame _,fun h=>by cases h⟩
theorem over:Rows.queueOwnRow.holds Tryd.pinned (OpenSpec.ofChange Rows.queueOwnSpec) :=
 OpenClaim.holds_of_wide 7 Tryd.f7 rfl rfl rfl rfl rfl rfl rfl ⟨rfl,rfl,rfl,rfl,rfl⟩ rfl rfl rfl rfl rfl (by kernel_rfl) Tryd.func7 (by kernel_rfl)
  (of_decide_eq_true (by kernel_rfl)) (by unfold Func.isWrapper;first | (rw[if_pos (by decide +kernel)];kernel_rfl) | (rw[if_neg (by decide +kernel)];exact⟨rfl,rfl⟩))
  (fun os started H enc _=>lifted os started H enc)
theorem plain (f : FuncId) (fn : Func) (hf : Tryd.pinned.checked.prog.funcNamed "omnibus/omnibuslaw14.QueueOwn" = some f) (hfn : Tryd.pinned.checked.prog.funcs[f]? = some fn) :
    true=Tryd.pinned.checked.prog.looks []/\∀ (j:Nat) t,fn.params[j]? = some t->Tryd.pinned.checked.prog.wantsStandIn t=false:=by
 obtain rfl : f = 7 := Option.some.inj ((show Tryd.prog.funcNamed "omnibus/omnibuslaw14.QueueOwn" = some 7 by kernel_rfl).symm.trans hf) |>.symm
 obtain rfl:fn=Tryd.f7:=(Option.some.inj (Tryd.func7.symm.trans hfn)).symm
 refine⟨by kernel_rfl,fun j t ht => ?_⟩
 rw[Tryd.params7] at ht
 have hm:t∈[36]:=by have:=Array.mem_of_getElem? ht;simp at this ⊢;omega
 have hall:([36].all fun u => !Tryd.prog.wantsStandIn u)=true:=by kernel_rfl
 exact (show Tryd.prog.wantsStandIn t=false by simpa using List.all_eq_true.1 hall t hm)
theorem proved:Rows.QueueOwnCardSaid :=
 Claim7.holds_tied_plain_at .later [] _ _ _ _ over (fun _ h=>by cases h) (by kernel_rfl) (fun _ h=>by cases h) queueOwn_row_tie rfl ⟨rfl,rfl⟩ (by kernel_rfl) rfl plain (by kernel_rfl)
#print axioms proved
end Go.Proofs.YtdedoeeekcfkpaaDoor.queueOwn
