/- For every frame the law FifoOwn answers true and leaves its argument as it was; the package's table of longer sizes is tied to the program's text. No conditions. -/
import Derived.Test.YtlmbggmamemmjaaDoorRows
import Derived.Test.YtlmbggmamemmjaaDoorCards
import Derived.Test.YtlmbggmamemmjaaDoorTie
import Derived.Test.YtlmbggmamemmjaaDoorFiA
import Derived.Test.YtlmbggmamemmjaaDoorFiU
import Derived.Test.YtlmbggmamemmjaaDoorGe
import Derived.Test.YtlmbggmamemmjaaDoorGa
import Derived.Test.YtlmbggmamemmjaaDoorGj
import Derived.WalkKit
import Derived.ProofKit
import Derived.OpenShut
import Derived.ShutString
import Derived.ChangeOld
import Derived.Below
import Derived.Carry
import Derived.Lib.SmallJoins
import Derived.Deep.RegionWith
import Derived.Deep.RegionHeld3
import Derived.LaidMore
import Derived.LaidLaws
import Derived.Stop.Joined
import Derived.SevenTiedAt
set_option maxHeartbeats 8000000
set_option maxRecDepth 100000
namespace Go.Proofs.YtlmbggmamemmjaaDoor.fifoOwn
open Go.ChangeShapes Go.WideShapes Go.ChangeAt Go.RowKit Go.Joins
set_option linter.unusedVariables false
set_option linter.unusedSimpArgs false
theorem own:ownKnob Tryd.prog.godebug=none:=by kernel_rfl
theorem laidOut:laidOutB Tryd.prog=true:=by kernel_rfl
theorem arr11 {α:Type} {cs:Array α} (h:cs.size=11):∃ c0 c1 c2 c3 c4 c5 c6 c7 c8 c9 c10,cs=#[c0,c1,c2,c3,c4,c5,c6,c7,c8,c9,c10]:=by
 obtain⟨l⟩:=cs
 match l,h with
 | [c0,c1,c2,c3,c4,c5,c6,c7,c8,c9,c10],_=>exact⟨c0,c1,c2,c3,c4,c5,c6,c7,c8,c9,c10,rfl⟩
theorem walk (w:World) (hK:Longer w) (a0_0:Int) (w0_0:(Lit.int .i64 a0_0).wf=true) (a0_1:Int) (w0_1:(Lit.int .u32 a0_1).wf=true) (a0_2:Bool) (a0_3:Bool) (a0_4:Bool) (a0_5:Bool) (a0_6:Bool) (a0_7:Int) (w0_7:(Lit.int .u8 a0_7).wf=true) (a0_8:Int) (w0_8:(Lit.int .u8 a0_8).wf=true) (a0_9:Int) (w0_9:(Lit.int .u32 a0_9).wf=true) (a0_10:Option Addr) (cap0_10:Nat) (l0_10:List Nat) (h0_10:Bs w a0_10 cap0_10 l0_10) (n0_10:a0_10=none->cap0_10=0) :
    Calls Tryd.prog 6 #[.agg #[.int .i64 a0_0,.int .u32 a0_1,.bool a0_2,.bool a0_3,.bool a0_4,.bool a0_5,.bool a0_6,.int .u8 a0_7,.int .u8 a0_8,.int .u32 a0_9,.slice a0_10 l0_10.length cap0_10]] w fun e w'=>e = .returned (.bool true)/\Nb w w':=by
 have hL0:=h0_10.len
 have HA:=Lib.hid h0_10
 have HK:=Lib.hid hK
 have AL:=Lib.hid (fun w' (n:Nb w w')=>alive16_any w' (hK.below n))
 obtain⟨fh,hfe⟩:∃ fh:Hd,fh=⟨a0_0,a0_1,a0_2,a0_3,a0_4,a0_5,a0_6,a0_7,a0_8,a0_9⟩:=⟨_,rfl⟩
 have hcs0:∀ v,fh.cs v=#[.int .i64 a0_0,.int .u32 a0_1,.bool a0_2,.bool a0_3,.bool a0_4,.bool a0_5,.bool a0_6,.int .u8 a0_7,.int .u8 a0_8,.int .u32 a0_9,v]:=fun v=>by rw[hfe];rfl
 have HFE:=Lib.hid hfe
 obtain⟨W0,hW0⟩:∃ W0,W0=w.alloc (.cells #[.int .i64 a0_0,.int .u32 a0_1,.bool a0_2,.bool a0_3,.bool a0_4,.bool a0_5,.bool a0_6,.int .u8 a0_7,.int .u8 a0_8,.int .u32 a0_9,.slice a0_10 l0_10.length cap0_10] 36):=⟨_,rfl⟩
 have QF:=Lib.hid (show Blk W0 w.heap.size #[.int .i64 a0_0,.int .u32 a0_1,.bool a0_2,.bool a0_3,.bool a0_4,.bool a0_5,.bool a0_6,.int .u8 a0_7,.int .u8 a0_8,.int .u32 a0_9,.slice a0_10 l0_10.length cap0_10] 36 by rw[hW0];exact Blk.new _ _ _)
 have M0:=Lib.hid (show Nb w W0 by rw[hW0];exact Nb.rfl.al _)
 have HW0:=Lib.hid hW0
 have F0:=Lib.hid (fun w' (n:Nb w w')=>by
  have h:=check5_any fh a0_10 cap0_10 l0_10 w' (HA.out.below n) (HK.out.below n)
  rw[hcs0] at h
  exact h)
 clear hK h0_10 w0_0 w0_1 w0_7 w0_8 w0_9 n0_10 hW0
 by_cases hbig:3000 < l0_10.length
 ·have d0:decide ((3000:Int) < (l0_10.length:Int))=true:=decide_eq_true (by omega)
  clear hbig hfe hcs0 F0
  go_enter Tryd.func6,Tryd.ntmps6
  go_wp2_with fail
  rw[<- HW0.out]
  refine (AL.out _ M0.out).mono ?_
  rintro e w1 ⟨rfl,n1⟩
  have K1:=Lib.hid n1
  clear n1
  obtain⟨c0,c1,c2,c3,c4,c5,c6,c7,c8,c9,c10⟩:=(QF.out.nb K1.out).c11
  go_wp2
  go_ret
  exact⟨rfl,M0.out.tr K1.out⟩
 have d0:decide ((3000:Int) < (l0_10.length:Int))=false:=decide_eq_false (by omega)
 have hl3:l0_10.length<=3000:=by omega
 clear hbig
 cases hok:okF fh l0_10 with
 | false =>
   rw[show checkN fh l0_10=2 by simp[checkN,hok]] at F0
   clear hok hfe hcs0
   go_enter Tryd.func6,Tryd.ntmps6
   go_wp2_with fail
   rw[<- HW0.out]
   refine (AL.out _ M0.out).mono ?_
   rintro e w1 ⟨rfl,n1⟩
   have K1:=Lib.hid n1
   clear n1
   obtain⟨c0,c1,c2,c3,c4,c5,c6,c7,c8,c9,c10⟩:=(QF.out.nb K1.out).c11
   go_wp2_with fail
   refine (F0.out _ (M0.out.tr K1.out)).mono ?_
   rintro e w2 ⟨rfl,n2⟩
   have K2:=Lib.hid (K1.out.tr n2)
   go_wp2
   go_ret
   exact⟨rfl,M0.out.tr K2.out⟩
 | true =>
   rw[show checkN fh l0_10=0 by simp[checkN,hok]] at F0
   have CP:=Lib.hid (fun w' (n:Nb w w')=>by
    have h:=copy_all fh a0_10 cap0_10 l0_10 w' (HA.out.below n) (by omega)
    simp only[hcs0] at h
    exact h)
   have hput:=fun w' v X (q:Fi) (h:FiX W0 w' v q X) (ho:q.over<=1000000) a c (hb:Bs w' a c l0_10)=>h.push fh a c l0_10 (HK.out.below (M0.out.tr h.nb)) hb ho
   rw[show checkN fh l0_10=0 by simp[checkN,hok]] at hput
   simp only[hcs0] at hput
   have HPT:=Lib.hid hput
   have Q1:=Lib.hid (show (⟨3,0,[]⟩:Fi).push fh l0_10=⟨3,0,[(fh,l0_10)]⟩ by simp[Fi.push,hok])
   have Q2:=Lib.hid (show (⟨3,0,[(fh,l0_10)]⟩:Fi).push fh l0_10=⟨3,0,[(fh,l0_10),(fh,l0_10)]⟩ by simp[Fi.push,hok])
   have HCS:=Lib.hid hcs0
   clear hok hput hcs0 hfe
   go_enter Tryd.func6,Tryd.ntmps6
   go_wp2_with fail
   rw[<- HW0.out]
   refine (AL.out _ M0.out).mono ?_
   rintro e w1 ⟨rfl,n1⟩
   have K1:=Lib.hid n1
   clear n1
   obtain⟨c0,c1,c2,c3,c4,c5,c6,c7,c8,c9,c10⟩:=(QF.out.nb K1.out).c11
   go_wp2_with fail
   refine (F0.out _ (M0.out.tr K1.out)).mono ?_
   rintro e w2 ⟨rfl,n2⟩
   have K2:=Lib.hid (K1.out.tr n2)
   clear n2 c0 c1 c2 c3 c4 c5 c6 c7 c8 c9 c10 F0
   obtain⟨c0,c1,c2,c3,c4,c5,c6,c7,c8,c9,c10⟩:=(QF.out.nb K2.out).c11
   go_wp2_with fail
   refine (newF_any 3 (by omega) _).mono ?_
   rintro e w3 ⟨R,F,rfl,g1,g2,g3⟩
   have N3:=Lib.hid (show FiX W0 w3 _ (⟨3,0,[]⟩:Fi) noF from FiX.new g1 g2 g3 K2.out)
   generalize Value.pointer (some ⟨R,0,none⟩)=vq at *
   clear g1 g2 g3 c0 c1 c2 c3 c4 c5 c6 c7 c8 c9 c10
   obtain⟨c0,c1,c2,c3,c4,c5,c6,c7,c8,c9,c10⟩:=(QF.out.nb N3.out.nb).c11
   go_wp2_with fail
   refine (CP.out _ (M0.out.tr N3.out.nb)).mono ?_
   rintro e w4 ⟨⟨aI,cI,rfl,fI⟩,n4⟩
   obtain⟨QI,hQI⟩:∃ Q,Q=w4.heap.size:=⟨_,rfl⟩
   obtain⟨u4,hu⟩:∃ u,u=w4.alloc (.cells #[.int .i64 a0_0,.int .u32 a0_1,.bool a0_2,.bool a0_3,.bool a0_4,.bool a0_5,.bool a0_6,.int .u8 a0_7,.int .u8 a0_8,.int .u32 a0_9,.slice aI l0_10.length cI] 36):=⟨_,rfl⟩
   obtain⟨XI,hXI⟩:∃ X:Nat->Prop,X=fun k=>Value.ownBlock (.slice aI l0_10.length cI)=some k:=⟨_,rfl⟩
   have hown:=fI.1
   have hXlt:∀ k,XI k->w3.heap.size<=k/\k < w4.heap.size:=fun k hk=>by rw[hXI] at hk;exact⟨fI.2 k hk,hown.lt hk⟩
   have N4:=Lib.hid (show FiX W0 u4 vq (⟨3,0,[]⟩:Fi) (fun k=>XI k\/k=QI) by rw[hu,hQI];exact ((N3.out.add n4 hXlt).addB _ _).less (fun k hk=>by rcases hk with h | h;exact .inl (.inr h);exact .inr h))
   have DI:=Lib.hid (show DatP u4 aI cI l0_10 XI by rw[hu];exact (hown.dat (fun g hg=>by rw[hXI];exact hg)).nb (Nb.rfl.al _))
   have BI:=Lib.hid (show Blk u4 QI #[.int .i64 a0_0,.int .u32 a0_1,.bool a0_2,.bool a0_3,.bool a0_4,.bool a0_5,.bool a0_6,.int .u8 a0_7,.int .u8 a0_8,.int .u32 a0_9,.slice aI l0_10.length cI] 36 by rw[hu,hQI];exact Blk.new _ _ _)
   have HXI:=Lib.hid (show ∀ k,XI k->W0.heap.size<=k/\k < QI from fun k hk=>by
    have h1:=hXlt k hk
    have h2:=N3.out.nb.size
    omega)
   have HU:=Lib.hid hu
   have HQ:=Lib.hid hQI
   clear hu hQI hXI hown hXlt fI n4 N3 c0 c1 c2 c3 c4 c5 c6 c7 c8 c9 c10 CP
   have hpp:=HPT.out _ vq _ _ N4.out (Nat.zero_le _) aI cI DI.out.1
   rw[Q1.out] at hpp
   generalize Fi.pushB ⟨3,0,[]⟩ fh l0_10=pb at hpp
   have HPP:=Lib.hid hpp
   clear hpp
   go_wp2_with fail
   rw[<- HU.out,<- HQ.out]
   refine HPP.out.mono ?_
   rintro e w5 ⟨G,rfl,gk,gX,_,hn⟩
   have N5:=Lib.hid hn
   have DI5:=Lib.hid (DI.out.keep gk (fun k hk=>gX k (.inl hk)))
   have BI5:=Lib.hid (BI.out.keep gk (gX _ (.inr rfl)))
   clear hn gk gX HPP DI BI HU N4
   have hpp:=HPT.out _ vq _ _ N5.out (Nat.zero_le _) aI cI DI5.out.1
   rw[Q2.out] at hpp
   generalize Fi.pushB ⟨3,0,[(fh,l0_10)]⟩ fh l0_10=pb2 at hpp
   have HPP:=Lib.hid hpp
   clear hpp HPT
   obtain⟨c0,c1,c2,c3,c4,c5,c6,c7,c8,c9,c10⟩:=BI5.out.c11
   go_wp2_with fail
   refine HPP.out.mono ?_
   rintro e w6 ⟨G,rfl,gk,gX,_,hn⟩
   have N6:=Lib.hid hn
   have MI:=Lib.hid ((DI5.out.keep gk (fun k hk=>gX k (.inl hk))).mut)
   have BI6:=Lib.hid (BI5.out.keep gk (gX _ (.inr rfl)))
   clear hn gk gX HPP DI5 BI5 N5 c0 c1 c2 c3 c4 c5 c6 c7 c8 c9 c10 HQ
   have i10:=BI6.out.cell 10
   simp only[List.getElem?_toArray,List.getElem?_cons_zero,List.getElem?_cons_succ] at i10
   go_wp2
   clear i10
   go_loopw [39] (fun ix wr=>∃ k:Nat,k<=l0_10.length/\ix = .int .i64 k/\FiX W0 wr vq (⟨3,0,[(fh,l0_10),(fh,l0_10)]⟩:Fi) (fun k=>XI k\/k=QI)/\MutS wr aI cI l0_10.length XI/\Blk wr QI #[.int .i64 a0_0,.int .u32 a0_1,.bool a0_2,.bool a0_3,.bool a0_4,.bool a0_5,.bool a0_6,.int .u8 a0_7,.int .u8 a0_8,.int .u32 a0_9,.slice aI l0_10.length cI] 36) (fun ix _=>l0_10.length - (intOf ix).toNat)
   case atStart=>exact⟨0,Nat.zero_le _,rfl,N6.out,MI.out,BI6.out⟩
   case round =>
    obtain⟨k,hk,rfl,hN,hM,hB⟩:=hrel
    have N:=Lib.hid hN
    have M:=Lib.hid hM
    have B:=Lib.hid hB
    clear hN hM hB N6 MI BI6
    by_cases hlt:k < l0_10.length
    ·have hlt':decide ((k:Int) < (l0_10.length:Int))=true:=decide_eq_true (by omega)
     obtain⟨b,of,x,rfl,hXb,hcp,hcm,hx,hc,hfz,hbl,hput⟩:=M.out.at hlt
     have i10:=B.out.cell 10
     simp only[List.getElem?_toArray,List.getElem?_cons_zero,List.getElem?_cons_succ] at i10
     have hbq:=(HXI.out b hXb)
     have kp:Kp (fun y=>y=b) wr (wr.setCell ⟨b,of+k,none⟩ (.int .u8 ((x+1)%256:Nat))):=Kp.set (F:=fun y=>y=b) rfl
     have R1:=Lib.hid (N.out.keepX kp (fun y hy=>by subst hy;exact⟨.inl hXb,hbq.1⟩))
     have R2:=Lib.hid (hput ((x+1)%256) (Nat.mod_lt _ (by omega)))
     have R3:=Lib.hid (B.out.keep kp (show ¬QI=b by omega))
     have hpc:(((x+1)%256:Nat):Int)=((x:Int)+1)%256:=by push_cast;rfl
     rw[hpc] at R1 R2 R3
     clear hput kp hpc
     go_wp2
     go_roundw
     case rel=>exact⟨k+1,by omega,by go_num,R1.out,R2.out,R3.out⟩
     case measure=>simp[intOf];omega
    ·have hlt':decide ((k:Int) < (l0_10.length:Int))=false:=decide_eq_false (by omega)
     have NN:=Lib.hid (N.out.less (Y:=noF) (fun k hk=>hk.elim))
     clear N M B HXI
     go_wp2_with fail
     refine NN.out.all2.mono ?_
     rintro e w6 ⟨aA,cA,B3,P3,rfl,hit,hP3,hB3,n6,hN6⟩
     obtain⟨bA,oA,rfl,hbA,hM6⟩:=hit.mut (Nat.succ_pos _)
     have I6:=Lib.hid hM6
     have hcA:=hit.hcap
     have hcM:=hit.hmax
     have HP3:=Lib.hid (show ∀ k,P3 k->W0.heap.size<=k/\k < w6.heap.size from fun k hk=>⟨Nat.le_trans NN.out.nb.size (hP3 k hk).1,(hP3 k hk).2⟩)
     have HBA:=Lib.hid (show bA < w6.heap.size/\¬P3 bA from ⟨(hB3 bA hbA).2.1,(hB3 bA hbA).2.2⟩)
     have N6:=Lib.hid (hN6.less (Y:=P3) (fun k hk => .inr hk))
     clear hit hP3 hB3 n6 hN6 NN hbA hM6
     simp only[List.length_cons,List.length_nil] at hcA
     go_wp2
     go_loopw [53] (fun ix wr=>∃ j:Nat,j<=2/\ix = .int .i64 j/\FiX W0 wr vq (⟨3,0,[(fh,l0_10),(fh,l0_10)]⟩:Fi) P3/\FrM wr bA oA [(fh,l0_10),(fh,l0_10)] P3/\w6.heap.size<=wr.heap.size) (fun ix _=>2 - (intOf ix).toNat)
     case atStart=>exact⟨0,by omega,rfl,N6.out,I6.out,Nat.le_refl _⟩
     case round =>
      obtain⟨j,hj,rfl,hN,hI,hsz⟩:=hrel
      clear N6 I6
      have I:=Lib.hid hI
      have N:=Lib.hid hN
      clear hI hN
      by_cases hj2:j < 2
      ·have hj2':decide ((j:Int) < (2:Int))=true:=decide_eq_true (by omega)
       have hgd:[(fh,l0_10),(fh,l0_10)].getD j dF=(⟨a0_0,a0_1,a0_2,a0_3,a0_4,a0_5,a0_6,a0_7,a0_8,a0_9⟩,l0_10):=by
        rw[<- HFE.out]
        rcases (by omega:j=0\/j=1) with rfl | rfl<;>rfl
       obtain⟨pa,pc,⟨y0,y1,y2,y3,y4,y5,y6,y7,y8,y9,y10⟩,hd⟩:=I.out.at (j:=j) hj2 hgd
       obtain⟨Qy,hQ⟩:∃ Q,Q=wr.heap.size:=⟨_,rfl⟩
       obtain⟨uB,hu⟩:∃ u,u=wr.alloc (.cells #[.int .i64 a0_0,.int .u32 a0_1,.bool a0_2,.bool a0_3,.bool a0_4,.bool a0_5,.bool a0_6,.int .u8 a0_7,.int .u8 a0_8,.int .u32 a0_9,.slice pa l0_10.length pc] 36):=⟨_,rfl⟩
       have NS:=Lib.hid (show FiX W0 uB vq (⟨3,0,[(fh,l0_10),(fh,l0_10)]⟩:Fi) (fun k=>P3 k\/k=Qy) by rw[hu,hQ];exact N.out.addB _ _)
       have MS:=Lib.hid (show MutS uB pa pc l0_10.length P3 by rw[hu];exact hd.nb (Nb.rfl.al _))
       have BS:=Lib.hid (show Blk uB Qy #[.int .i64 a0_0,.int .u32 a0_1,.bool a0_2,.bool a0_3,.bool a0_4,.bool a0_5,.bool a0_6,.int .u8 a0_7,.int .u8 a0_8,.int .u32 a0_9,.slice pa l0_10.length pc] 36 by rw[hu,hQ];exact Blk.new _ _ _)
       have IS:=Lib.hid (show FrM uB bA oA [(fh,l0_10),(fh,l0_10)] P3 by rw[hu];exact I.out.keep (Kp.ofNb (F:=fun _=>False) (Nb.rfl.al _)) (fun h=>h) (fun _ _ h=>h))
       have SZ:=Lib.hid (show w6.heap.size<=uB.heap.size by rw[hu,World.size_alloc];omega)
       have HPY:=Lib.hid (show ∀ k,P3 k->W0.heap.size<=k/\k < Qy from fun k hk=>by
        have:=HP3.out k hk
        omega)
       have HU:=Lib.hid hu
       have HQ:=Lib.hid hQ
       clear hd hu hQ N I hsz hgd
       go_wp2
       rw[<- HU.out,<- HQ.out]
       go_loopw [60] (fun ix wr=>∃ k:Nat,k<=l0_10.length/\ix = .int .i64 k/\FiX W0 wr vq (⟨3,0,[(fh,l0_10),(fh,l0_10)]⟩:Fi) (fun k=>P3 k\/k=Qy)/\MutS wr pa pc l0_10.length P3/\Blk wr Qy #[.int .i64 a0_0,.int .u32 a0_1,.bool a0_2,.bool a0_3,.bool a0_4,.bool a0_5,.bool a0_6,.int .u8 a0_7,.int .u8 a0_8,.int .u32 a0_9,.slice pa l0_10.length pc] 36/\FrM wr bA oA [(fh,l0_10),(fh,l0_10)] P3/\w6.heap.size<=wr.heap.size) (fun ix _=>l0_10.length - (intOf ix).toNat)
       case atStart=>exact⟨0,Nat.zero_le _,rfl,NS.out,MS.out,BS.out,IS.out,SZ.out⟩
       case round =>
        obtain⟨k,hk,rfl,hN,hM,hB,hI,hsz⟩:=hrel
        have N:=Lib.hid hN
        have M:=Lib.hid hM
        have B:=Lib.hid hB
        have I:=Lib.hid hI
        have SZ2:=Lib.hid hsz
        clear hN hM hB NS MS BS IS SZ hI hsz
        by_cases hlt:k < l0_10.length
        ·have hlt':decide ((k:Int) < (l0_10.length:Int))=true:=decide_eq_true (by omega)
         obtain⟨b,of,x,rfl,hXb,hcp,hcm,hx,hc,hfz,hbl,hput⟩:=M.out.at hlt
         have i10:=B.out.cell 10
         simp only[List.getElem?_toArray,List.getElem?_cons_zero,List.getElem?_cons_succ] at i10
         have hbq:=(HPY.out b hXb)
         have kp:Kp (fun y=>y=b) wr (wr.setCell ⟨b,of+k,none⟩ (.int .u8 ((x+1)%256:Nat))):=Kp.set (F:=fun y=>y=b) rfl
         have R1:=Lib.hid (N.out.keepX kp (fun y hy=>by subst hy;exact⟨.inl hXb,hbq.1⟩))
         have R2:=Lib.hid (hput ((x+1)%256) (Nat.mod_lt _ (by omega)))
         have R3:=Lib.hid (B.out.keep kp (show ¬Qy=b by omega))
         have R4:=Lib.hid (I.out.store (y:=(x+1)%256) hc (fun h=>HBA.out.2 (by rw[h];exact hXb)) (Nat.mod_lt _ (by omega)))
         have R5:=Lib.hid (Nat.le_trans SZ2.out kp.size)
         have hpc:(((x+1)%256:Nat):Int)=((x:Int)+1)%256:=by push_cast;rfl
         rw[hpc] at R1 R2 R3 R4 R5
         clear hput kp hpc
         go_wp2
         go_roundw
         case rel=>exact⟨k+1,by omega,by go_num,R1.out,R2.out,R3.out,R4.out,R5.out⟩
         case measure=>simp[intOf];omega
        ·have hlt':decide ((k:Int) < (l0_10.length:Int))=false:=decide_eq_false (by omega)
         go_wp2
         go_roundw
         case rel=>exact⟨j+1,by omega,by go_num,N.out.less (fun k hk => .inl hk),I.out,SZ2.out⟩
         case measure=>simp[intOf];omega
      ·obtain rfl:j=2:=by omega
       clear I hj2
       have NH:=Lib.hid ((N.out.less (Y:=noF) (fun k hk=>hk.elim)).below)
       have po:=NH.out.pop
       rw[show (⟨3,0,[(fh,l0_10),(fh,l0_10)]⟩:Fi).head=(fh,l0_10) from rfl,show (⟨3,0,[(fh,l0_10),(fh,l0_10)]⟩:Fi).popE=0 from rfl,show (⟨3,0,[(fh,l0_10),(fh,l0_10)]⟩:Fi).pop=⟨3,0,[(fh,l0_10)]⟩ from rfl] at po
       simp only[HCS.out] at po
       have PO:=Lib.hid po
       clear po N
       go_wp2_with fail
       refine PO.out.mono ?_
       rintro e w7 ⟨ax,cx,Px,G,rfl,dx,gp,gk,gX,gw,hn⟩
       obtain⟨QX,hQ⟩:∃ Q,Q=w7.heap.size:=⟨_,rfl⟩
       obtain⟨uX,hu⟩:∃ u,u=w7.alloc (.cells #[.int .i64 a0_0,.int .u32 a0_1,.bool a0_2,.bool a0_3,.bool a0_4,.bool a0_5,.bool a0_6,.int .u8 a0_7,.int .u8 a0_8,.int .u32 a0_9,.slice ax l0_10.length cx] 36):=⟨_,rfl⟩
       have NX:=Lib.hid (show FiX W0 uX vq ⟨3,0,[(fh,l0_10)]⟩ (fun k=>(k < W0.heap.size\/Px k)\/k=QX) by rw[hu,hQ];exact (hn.addB _ _).less (fun k hk=>by
        rcases hk with (h | h) | h
        ·exact .inl (.inl (.inr h))
        ·exact .inl (.inr h)
        ·exact .inr h))
       have BX:=Lib.hid (show Blk uX QX #[.int .i64 a0_0,.int .u32 a0_1,.bool a0_2,.bool a0_3,.bool a0_4,.bool a0_5,.bool a0_6,.int .u8 a0_7,.int .u8 a0_8,.int .u32 a0_9,.slice ax l0_10.length cx] 36 by rw[hu,hQ];exact Blk.new _ _ _)
       have DX:=Lib.hid (show DatP uX ax cx l0_10 Px by rw[hu];exact dx.nb (Nb.rfl.al _))
       have HU:=Lib.hid hu
       have HQ:=Lib.hid hQ
       have cl:=NX.out.clear
       rw[show (⟨3,0,[(fh,l0_10)]⟩:Fi).clear=⟨3,0,[]⟩ from rfl] at cl
       simp only[List.length_cons,List.length_nil,Nat.zero_add] at cl
       have CL:=Lib.hid cl
       clear dx gp gk gX gw hn hu cl PO NH
       go_wp2_with fail
       rw[<- HU.out]
       refine CL.out.mono ?_
       rintro e w8 ⟨aL,cL,PL,G2,rfl,hfL,gpL,gk,gX,gw,hn,-⟩
       have N8:=Lib.hid hn
       have bx8:=BX.out.keep gk (gX _ (.inr rfl))
       have dx8:=DX.out.keep gk (fun k hk=>gX k (.inl (.inr hk)))
       obtain⟨bL,oL,rfl,hbL,hcL⟩:=hfL.hcells (Nat.succ_pos _)
       have hcap:=hfL.hcap
       have hmax:=hfL.hmax
       simp only[List.length_cons,List.length_nil,Nat.zero_add] at hcap
       obtain⟨pl,ql,hc0,hd0⟩:=hcL 0 (Nat.succ_pos _)
       rw[show [(fh,l0_10)].getD 0 dF=(fh,l0_10) from rfl,HFE.out] at hc0 hd0
       simp only[Nat.zero_mul,Nat.add_zero] at hc0
       have nbX:Nb W0 w8:=hn.nb
       obtain⟨x0,x1,x2,x3,x4,x5,x6,x7,x8,x9,x10⟩:=bx8.c11
       obtain⟨q0,q1,q2,q3,q4,q5,q6,q7,q8,q9,q10⟩:=(QF.out.nb nbX).c11
       have S0:((w8.cell? ⟨QX,0,none⟩=some (.int .i64 a0_0)/\w8.cell? ⟨QX,1,none⟩=some (.int .u32 a0_1)/\w8.cell? ⟨QX,2,none⟩=some (.bool a0_2)/\w8.cell? ⟨QX,3,none⟩=some (.bool a0_3)/\w8.cell? ⟨QX,4,none⟩=some (.bool a0_4)/\w8.cell? ⟨QX,5,none⟩=some (.bool a0_5)/\w8.cell? ⟨QX,6,none⟩=some (.bool a0_6)/\w8.cell? ⟨QX,7,none⟩=some (.int .u8 a0_7)/\w8.cell? ⟨QX,8,none⟩=some (.int .u8 a0_8)/\w8.cell? ⟨QX,9,none⟩=some (.int .u32 a0_9)/\w8.cell? ⟨QX,10,none⟩=some (.slice ax l0_10.length cx))/\(w8.cell? ⟨w.heap.size,0,none⟩=some (.int .i64 a0_0)/\w8.cell? ⟨w.heap.size,1,none⟩=some (.int .u32 a0_1)/\w8.cell? ⟨w.heap.size,2,none⟩=some (.bool a0_2)/\w8.cell? ⟨w.heap.size,3,none⟩=some (.bool a0_3)/\w8.cell? ⟨w.heap.size,4,none⟩=some (.bool a0_4)/\w8.cell? ⟨w.heap.size,5,none⟩=some (.bool a0_5)/\w8.cell? ⟨w.heap.size,6,none⟩=some (.bool a0_6)/\w8.cell? ⟨w.heap.size,7,none⟩=some (.int .u8 a0_7)/\w8.cell? ⟨w.heap.size,8,none⟩=some (.int .u8 a0_8)/\w8.cell? ⟨w.heap.size,9,none⟩=some (.int .u32 a0_9)/\w8.cell? ⟨w.heap.size,10,none⟩=some (.slice a0_10 l0_10.length cap0_10))/\w8.cell? ⟨bL,oL,none⟩=some (.int .i64 a0_0)/\w8.cell? ⟨bL,oL+1,none⟩=some (.int .u32 a0_1)/\w8.cell? ⟨bL,oL+2,none⟩=some (.bool a0_2)/\w8.cell? ⟨bL,oL+3,none⟩=some (.bool a0_3)/\w8.cell? ⟨bL,oL+4,none⟩=some (.bool a0_4)/\w8.cell? ⟨bL,oL+5,none⟩=some (.bool a0_5)/\w8.cell? ⟨bL,oL+6,none⟩=some (.bool a0_6)/\w8.cell? ⟨bL,oL+7,none⟩=some (.int .u8 a0_7)/\w8.cell? ⟨bL,oL+8,none⟩=some (.int .u8 a0_8)/\w8.cell? ⟨bL,oL+9,none⟩=some (.int .u32 a0_9)/\w8.cell? ⟨bL,oL+10,none⟩=some (.slice pl l0_10.length ql)):=⟨⟨x0,x1,x2,x3,x4,x5,x6,x7,x8,x9,x10⟩,⟨q0,q1,q2,q3,q4,q5,q6,q7,q8,q9,q10⟩,hc0 0 (by omega),hc0 1 (by omega),hc0 2 (by omega),hc0 3 (by omega),hc0 4 (by omega),hc0 5 (by omega),hc0 6 (by omega),hc0 7 (by omega),hc0 8 (by omega),hc0 9 (by omega),hc0 10 (by omega)⟩
       have SK:=Lib.hid (show ∀ (K:Nat->Prop) (w' w'':World),Kp K w' w''->¬K QX->¬K w.heap.size->¬K bL->((w'.cell? ⟨QX,0,none⟩=some (.int .i64 a0_0)/\w'.cell? ⟨QX,1,none⟩=some (.int .u32 a0_1)/\w'.cell? ⟨QX,2,none⟩=some (.bool a0_2)/\w'.cell? ⟨QX,3,none⟩=some (.bool a0_3)/\w'.cell? ⟨QX,4,none⟩=some (.bool a0_4)/\w'.cell? ⟨QX,5,none⟩=some (.bool a0_5)/\w'.cell? ⟨QX,6,none⟩=some (.bool a0_6)/\w'.cell? ⟨QX,7,none⟩=some (.int .u8 a0_7)/\w'.cell? ⟨QX,8,none⟩=some (.int .u8 a0_8)/\w'.cell? ⟨QX,9,none⟩=some (.int .u32 a0_9)/\w'.cell? ⟨QX,10,none⟩=some (.slice ax l0_10.length cx))/\(w'.cell? ⟨w.heap.size,0,none⟩=some (.int .i64 a0_0)/\w'.cell? ⟨w.heap.size,1,none⟩=some (.int .u32 a0_1)/\w'.cell? ⟨w.heap.size,2,none⟩=some (.bool a0_2)/\w'.cell? ⟨w.heap.size,3,none⟩=some (.bool a0_3)/\w'.cell? ⟨w.heap.size,4,none⟩=some (.bool a0_4)/\w'.cell? ⟨w.heap.size,5,none⟩=some (.bool a0_5)/\w'.cell? ⟨w.heap.size,6,none⟩=some (.bool a0_6)/\w'.cell? ⟨w.heap.size,7,none⟩=some (.int .u8 a0_7)/\w'.cell? ⟨w.heap.size,8,none⟩=some (.int .u8 a0_8)/\w'.cell? ⟨w.heap.size,9,none⟩=some (.int .u32 a0_9)/\w'.cell? ⟨w.heap.size,10,none⟩=some (.slice a0_10 l0_10.length cap0_10))/\w'.cell? ⟨bL,oL,none⟩=some (.int .i64 a0_0)/\w'.cell? ⟨bL,oL+1,none⟩=some (.int .u32 a0_1)/\w'.cell? ⟨bL,oL+2,none⟩=some (.bool a0_2)/\w'.cell? ⟨bL,oL+3,none⟩=some (.bool a0_3)/\w'.cell? ⟨bL,oL+4,none⟩=some (.bool a0_4)/\w'.cell? ⟨bL,oL+5,none⟩=some (.bool a0_5)/\w'.cell? ⟨bL,oL+6,none⟩=some (.bool a0_6)/\w'.cell? ⟨bL,oL+7,none⟩=some (.int .u8 a0_7)/\w'.cell? ⟨bL,oL+8,none⟩=some (.int .u8 a0_8)/\w'.cell? ⟨bL,oL+9,none⟩=some (.int .u32 a0_9)/\w'.cell? ⟨bL,oL+10,none⟩=some (.slice pl l0_10.length ql))->((w''.cell? ⟨QX,0,none⟩=some (.int .i64 a0_0)/\w''.cell? ⟨QX,1,none⟩=some (.int .u32 a0_1)/\w''.cell? ⟨QX,2,none⟩=some (.bool a0_2)/\w''.cell? ⟨QX,3,none⟩=some (.bool a0_3)/\w''.cell? ⟨QX,4,none⟩=some (.bool a0_4)/\w''.cell? ⟨QX,5,none⟩=some (.bool a0_5)/\w''.cell? ⟨QX,6,none⟩=some (.bool a0_6)/\w''.cell? ⟨QX,7,none⟩=some (.int .u8 a0_7)/\w''.cell? ⟨QX,8,none⟩=some (.int .u8 a0_8)/\w''.cell? ⟨QX,9,none⟩=some (.int .u32 a0_9)/\w''.cell? ⟨QX,10,none⟩=some (.slice ax l0_10.length cx))/\(w''.cell? ⟨w.heap.size,0,none⟩=some (.int .i64 a0_0)/\w''.cell? ⟨w.heap.size,1,none⟩=some (.int .u32 a0_1)/\w''.cell? ⟨w.heap.size,2,none⟩=some (.bool a0_2)/\w''.cell? ⟨w.heap.size,3,none⟩=some (.bool a0_3)/\w''.cell? ⟨w.heap.size,4,none⟩=some (.bool a0_4)/\w''.cell? ⟨w.heap.size,5,none⟩=some (.bool a0_5)/\w''.cell? ⟨w.heap.size,6,none⟩=some (.bool a0_6)/\w''.cell? ⟨w.heap.size,7,none⟩=some (.int .u8 a0_7)/\w''.cell? ⟨w.heap.size,8,none⟩=some (.int .u8 a0_8)/\w''.cell? ⟨w.heap.size,9,none⟩=some (.int .u32 a0_9)/\w''.cell? ⟨w.heap.size,10,none⟩=some (.slice a0_10 l0_10.length cap0_10))/\w''.cell? ⟨bL,oL,none⟩=some (.int .i64 a0_0)/\w''.cell? ⟨bL,oL+1,none⟩=some (.int .u32 a0_1)/\w''.cell? ⟨bL,oL+2,none⟩=some (.bool a0_2)/\w''.cell? ⟨bL,oL+3,none⟩=some (.bool a0_3)/\w''.cell? ⟨bL,oL+4,none⟩=some (.bool a0_4)/\w''.cell? ⟨bL,oL+5,none⟩=some (.bool a0_5)/\w''.cell? ⟨bL,oL+6,none⟩=some (.bool a0_6)/\w''.cell? ⟨bL,oL+7,none⟩=some (.int .u8 a0_7)/\w''.cell? ⟨bL,oL+8,none⟩=some (.int .u8 a0_8)/\w''.cell? ⟨bL,oL+9,none⟩=some (.int .u32 a0_9)/\w''.cell? ⟨bL,oL+10,none⟩=some (.slice pl l0_10.length ql)) from fun K w' w'' hk h1 h2 h3 ⟨⟨x0,x1,x2,x3,x4,x5,x6,x7,x8,x9,x10⟩,⟨q0,q1,q2,q3,q4,q5,q6,q7,q8,q9,q10⟩,z0,z1,z2,z3,z4,z5,z6,z7,z8,z9,z10⟩ =>
        ⟨⟨hk.cell h1 x0,hk.cell h1 x1,hk.cell h1 x2,hk.cell h1 x3,hk.cell h1 x4,hk.cell h1 x5,hk.cell h1 x6,hk.cell h1 x7,hk.cell h1 x8,hk.cell h1 x9,hk.cell h1 x10⟩,⟨hk.cell h2 q0,hk.cell h2 q1,hk.cell h2 q2,hk.cell h2 q3,hk.cell h2 q4,hk.cell h2 q5,hk.cell h2 q6,hk.cell h2 q7,hk.cell h2 q8,hk.cell h2 q9,hk.cell h2 q10⟩,hk.cell h3 z0,hk.cell h3 z1,hk.cell h3 z2,hk.cell h3 z3,hk.cell h3 z4,hk.cell h3 z5,hk.cell h3 z6,hk.cell h3 z7,hk.cell h3 z8,hk.cell h3 z9,hk.cell h3 z10⟩)
       have SF:=Lib.hid (fun w' (n:Nb w8 w')=>SK.out (fun _=>False) w8 w' (Kp.ofNb n) (fun h=>h) (fun h=>h) (fun h=>h) S0)
       have SX:=Lib.hid (fun w' (n:Nb w8 w')=>by
        have h:=same5_any fh fh ax a0_10 cx cap0_10 l0_10 l0_10 w' (dx8.1.below n) (HA.out.below (M0.out.tr (nbX.tr n)))
        rw[sameF_rfl] at h
        simp only[HCS.out] at h
        exact h)
       have SL:=Lib.hid (fun w' (n:Nb w8 w')=>by
        have h:=same5_any fh fh pl a0_10 ql cap0_10 l0_10 l0_10 w' (hd0.1.below n) (HA.out.below (M0.out.tr (nbX.tr n)))
        rw[sameF_rfl] at h
        simp only[HCS.out] at h
        exact h)
       have le:=fun w' (n:Nb w8 w')=>(N8.out.keep n).len
       simp only[List.length_nil] at le
       have LE:=Lib.hid le
       have cl:=fun w' (n:Nb w8 w')=>(N8.out.keep n).clear
       simp only[List.length_nil] at cl
       have CZ:=Lib.hid cl
       have HW:=Lib.hid (show w.heap.size < W0.heap.size from QF.out.lt)
       have NB:=Lib.hid (Nb.drewN w8 1:Nb w8 w8.drew)
       have HBL:=Lib.hid hbL
       rw[HQ.out] at SK SF
       clear bx8 dx8 hfL gpL gk gX gw hn hbL hcL hc0 hd0 nbX S0 le cl CL NX BX DX HU x0 x1 x2 x3 x4 x5 x6 x7 x8 x9 x10 q0 q1 q2 q3 q4 q5 q6 q7 q8 q9 q10
       obtain⟨⟨x0,x1,x2,x3,x4,x5,x6,x7,x8,x9,x10⟩,⟨q0,q1,q2,q3,q4,q5,q6,q7,q8,q9,q10⟩,z0,z1,z2,z3,z4,z5,z6,z7,z8,z9,z10⟩:=SF.out _ NB.out
       go_wp2_with fail
       go_region_held3 (fun w'=>((w'.cell? ⟨w7.heap.size,0,none⟩=some (.int .i64 a0_0)/\w'.cell? ⟨w7.heap.size,1,none⟩=some (.int .u32 a0_1)/\w'.cell? ⟨w7.heap.size,2,none⟩=some (.bool a0_2)/\w'.cell? ⟨w7.heap.size,3,none⟩=some (.bool a0_3)/\w'.cell? ⟨w7.heap.size,4,none⟩=some (.bool a0_4)/\w'.cell? ⟨w7.heap.size,5,none⟩=some (.bool a0_5)/\w'.cell? ⟨w7.heap.size,6,none⟩=some (.bool a0_6)/\w'.cell? ⟨w7.heap.size,7,none⟩=some (.int .u8 a0_7)/\w'.cell? ⟨w7.heap.size,8,none⟩=some (.int .u8 a0_8)/\w'.cell? ⟨w7.heap.size,9,none⟩=some (.int .u32 a0_9)/\w'.cell? ⟨w7.heap.size,10,none⟩=some (.slice ax l0_10.length cx))/\(w'.cell? ⟨w.heap.size,0,none⟩=some (.int .i64 a0_0)/\w'.cell? ⟨w.heap.size,1,none⟩=some (.int .u32 a0_1)/\w'.cell? ⟨w.heap.size,2,none⟩=some (.bool a0_2)/\w'.cell? ⟨w.heap.size,3,none⟩=some (.bool a0_3)/\w'.cell? ⟨w.heap.size,4,none⟩=some (.bool a0_4)/\w'.cell? ⟨w.heap.size,5,none⟩=some (.bool a0_5)/\w'.cell? ⟨w.heap.size,6,none⟩=some (.bool a0_6)/\w'.cell? ⟨w.heap.size,7,none⟩=some (.int .u8 a0_7)/\w'.cell? ⟨w.heap.size,8,none⟩=some (.int .u8 a0_8)/\w'.cell? ⟨w.heap.size,9,none⟩=some (.int .u32 a0_9)/\w'.cell? ⟨w.heap.size,10,none⟩=some (.slice a0_10 l0_10.length cap0_10))/\w'.cell? ⟨bL,oL,none⟩=some (.int .i64 a0_0)/\w'.cell? ⟨bL,oL+1,none⟩=some (.int .u32 a0_1)/\w'.cell? ⟨bL,oL+2,none⟩=some (.bool a0_2)/\w'.cell? ⟨bL,oL+3,none⟩=some (.bool a0_3)/\w'.cell? ⟨bL,oL+4,none⟩=some (.bool a0_4)/\w'.cell? ⟨bL,oL+5,none⟩=some (.bool a0_5)/\w'.cell? ⟨bL,oL+6,none⟩=some (.bool a0_6)/\w'.cell? ⟨bL,oL+7,none⟩=some (.int .u8 a0_7)/\w'.cell? ⟨bL,oL+8,none⟩=some (.int .u8 a0_8)/\w'.cell? ⟨bL,oL+9,none⟩=some (.int .u32 a0_9)/\w'.cell? ⟨bL,oL+10,none⟩=some (.slice pl l0_10.length ql))) (first | exact SF.out _ NB.out | exact SZ.out | go_keep)
        (first
         | (go_at_call_of 23 (Value.slice ax l0_10.length cx);refine (SX.out _ NB.out).mono ?_;rintro e w9 ⟨rfl,n9⟩;have NB:=Lib.hid (NB.out.tr n9);clear n9)
         | (go_at_call_of 23 (Value.slice pl l0_10.length ql);refine (SL.out _ NB.out).mono ?_;rintro e w9 ⟨rfl,n9⟩;have NB:=Lib.hid (NB.out.tr n9);clear n9)
         | (go_at_call 19;refine (LE.out _ NB.out).mono ?_;rintro e w9 ⟨rfl,n9⟩;have NB:=Lib.hid (NB.out.tr n9);clear n9)
         | (go_at_call 16;refine (CZ.out _ NB.out).mono ?_;rintro e w9 ⟨aZ,cZ,PZ,GZ,rfl,-,-,gk,gX,gw,hn,-⟩;have SZ:=Lib.hid (SK.out GZ _ w9 gk (by rw[<- HQ.out];exact gX _ (.inl (.inr rfl))) (gX _ (.inl (.inl (.inl HW.out)))) (gX _ (.inr HBL.out)) (SF.out _ NB.out));have NZ:=Lib.hid hn.nb;clear gk gX gw hn))
       all_goals clear x0 x1 x2 x3 x4 x5 x6 x7 x8 x9 x10 q0 q1 q2 q3 q4 q5 q6 q7 q8 q9 q10 z0 z1 z2 z3 z4 z5 z6 z7 z8 z9 z10
       all_goals go_wp2
       all_goals go_ret
       all_goals exact⟨rfl,M0.out.tr NZ.out⟩
theorem door_met (os:Os) (args:Array Value):laidMetH Tryd.prog Rows.fifoOwnRow.laid ((World.doorLaid Tryd.prog 14 os).forCall (fun _ _=>0) ⟨#[],args,[]⟩).memory :=
 laidMetH_of_parts3 (fuel:=8) (laidMet_of_run' 8 (by kernel_rfl) (by kernel_rfl)) (by kernel_rfl) (by kernel_rfl)
theorem lifted (os:Os) (started:os.Started) (H:Type) (enc:TypeId × Value->H) :
    ReturnsInHanded {} Tryd.checked os 6 .any (fun w args=>(Rows.fifoOwnSpec.pre enc Tryd.prog Tryd.f6 [] false w args/\laidMetH Tryd.prog Rows.fifoOwnRow.laid w)/\sizedMet enc Tryd.prog Tryd.f6 (OpenSpec.ofChange Rows.fifoOwnSpec) false w args)
     (Rows.fifoOwnSpec.post enc Tryd.prog Tryd.f6 false true false false):=by
 refine returnsInHanded_of_change_and (C:=Tryd.checked) (X:=fun w _=>laidMetH Tryd.prog Rows.fifoOwnRow.laid w) (fun _ _ _ hh h=>h.of_heap hh) own started (by kernel_rfl) Tryd.func6
  (ChangeSpec.witness_shaped (enc:=enc) (C:=Tryd.checked) (os:=os) (X:=fun w _=>laidMetH Tryd.prog Rows.fifoOwnRow.laid w) false (World.doorLaid Tryd.prog 14 os) #[.agg #[.int .i64 0,.int .u32 0,.bool false,.bool false,.bool false,.bool false,.bool false,.int .u8 0,.int .u8 0,.int .u32 0,.slice none 0 0]] 8 rfl (World.shaped_of_RefB (by kernel_rfl) (by kernel_rfl)) (by kernel_rfl) (by kernel_rfl) (by kernel_rfl) (door_met os _)) ?_
 intro W base args ds gs before hval0 hW _ hR hL _
 have hval:∀ (j:Nat) t v,Tryd.f6.params[j]? = some t->args[j]? = some v->Value.okWide Tryd.prog W .any base t v:=hval0
 have hW':=hW
 obtain⟨p,q,hA0,hV,rfl,hfz,hnd⟩:=hW
 have hA:DataW.TrodAll enc Tryd.prog W 0 (fun _=>true) true Tryd.f6.params.toList args.toList ds p:=hA0
 rw[Tryd.params6] at hA hval
 obtain⟨v0,vs0,d0,ds0,p0,q0,hargs,rfl,rfl,h0,r0⟩:=trodAll_cons hA
 obtain⟨rfl,rfl,rfl⟩:=trodAll_nil r0
 obtain rfl:args=#[v0]:=by cases args;simp_all
 obtain⟨rfl,rfl⟩:=trodVars_none hV
 have k0:=h0
 have lt0:∀ x∈p0,x.block < W.heap.size:=by obtain⟨m,hm⟩:=k0;exact DataW.trod_lt m _ _ _ hm
 clear hA0
 obtain⟨cs0,rfl,hz0⟩:=okWide_struct Tryd.underlying36 (hval 0 36 v0 rfl rfl)
 obtain⟨c0_0,c0_1,c0_2,c0_3,c0_4,c0_5,c0_6,c0_7,c0_8,c0_9,c0_10,rfl⟩:=arr11 (hz0.trans (by kernel_rfl))
 obtain⟨fu0,hf0⟩:=h0
 have hc0:DataW.trod enc Tryd.prog W 0 (fun _=>true) true fu0 36 [c0_0,c0_1,c0_2,c0_3,c0_4,c0_5,c0_6,c0_7,c0_8,c0_9,c0_10]=some (d0,p0):=hf0
 obtain⟨m0_0,y0_0,g0_0⟩:=open_fld Tryd.underlying36 hc0 0 _ rfl
 have t0_0:DataW.trod enc Tryd.prog W 0 (fun _=>true) true m0_0 3 (([c0_0,c0_1,c0_2,c0_3,c0_4,c0_5,c0_6,c0_7,c0_8,c0_9,c0_10].drop 0).take (Tryd.prog.cellsOf 3))=some y0_0:=g0_0
 rw[show Tryd.prog.cellsOf 3=1 from by kernel_rfl] at t0_0
 have u0_0:DataW.trod enc Tryd.prog W 0 (fun _=>true) true m0_0 3 [c0_0]=some y0_0:=t0_0
 obtain⟨m0_1,y0_1,g0_1⟩:=open_fld Tryd.underlying36 hc0 1 _ rfl
 have t0_1:DataW.trod enc Tryd.prog W 0 (fun _=>true) true m0_1 33 (([c0_0,c0_1,c0_2,c0_3,c0_4,c0_5,c0_6,c0_7,c0_8,c0_9,c0_10].drop 1).take (Tryd.prog.cellsOf 33))=some y0_1:=g0_1
 rw[show Tryd.prog.cellsOf 33=1 from by kernel_rfl] at t0_1
 have u0_1:DataW.trod enc Tryd.prog W 0 (fun _=>true) true m0_1 33 [c0_1]=some y0_1:=t0_1
 obtain⟨m0_2,y0_2,g0_2⟩:=open_fld Tryd.underlying36 hc0 2 _ rfl
 have t0_2:DataW.trod enc Tryd.prog W 0 (fun _=>true) true m0_2 4 (([c0_0,c0_1,c0_2,c0_3,c0_4,c0_5,c0_6,c0_7,c0_8,c0_9,c0_10].drop 2).take (Tryd.prog.cellsOf 4))=some y0_2:=g0_2
 rw[show Tryd.prog.cellsOf 4=1 from by kernel_rfl] at t0_2
 have u0_2:DataW.trod enc Tryd.prog W 0 (fun _=>true) true m0_2 4 [c0_2]=some y0_2:=t0_2
 obtain⟨m0_3,y0_3,g0_3⟩:=open_fld Tryd.underlying36 hc0 3 _ rfl
 have t0_3:DataW.trod enc Tryd.prog W 0 (fun _=>true) true m0_3 4 (([c0_0,c0_1,c0_2,c0_3,c0_4,c0_5,c0_6,c0_7,c0_8,c0_9,c0_10].drop 3).take (Tryd.prog.cellsOf 4))=some y0_3:=g0_3
 rw[show Tryd.prog.cellsOf 4=1 from by kernel_rfl] at t0_3
 have u0_3:DataW.trod enc Tryd.prog W 0 (fun _=>true) true m0_3 4 [c0_3]=some y0_3:=t0_3
 obtain⟨m0_4,y0_4,g0_4⟩:=open_fld Tryd.underlying36 hc0 4 _ rfl
 have t0_4:DataW.trod enc Tryd.prog W 0 (fun _=>true) true m0_4 4 (([c0_0,c0_1,c0_2,c0_3,c0_4,c0_5,c0_6,c0_7,c0_8,c0_9,c0_10].drop 4).take (Tryd.prog.cellsOf 4))=some y0_4:=g0_4
 rw[show Tryd.prog.cellsOf 4=1 from by kernel_rfl] at t0_4
 have u0_4:DataW.trod enc Tryd.prog W 0 (fun _=>true) true m0_4 4 [c0_4]=some y0_4:=t0_4
 obtain⟨m0_5,y0_5,g0_5⟩:=open_fld Tryd.underlying36 hc0 5 _ rfl
 have t0_5:DataW.trod enc Tryd.prog W 0 (fun _=>true) true m0_5 4 (([c0_0,c0_1,c0_2,c0_3,c0_4,c0_5,c0_6,c0_7,c0_8,c0_9,c0_10].drop 5).take (Tryd.prog.cellsOf 4))=some y0_5:=g0_5
 rw[show Tryd.prog.cellsOf 4=1 from by kernel_rfl] at t0_5
 have u0_5:DataW.trod enc Tryd.prog W 0 (fun _=>true) true m0_5 4 [c0_5]=some y0_5:=t0_5
 obtain⟨m0_6,y0_6,g0_6⟩:=open_fld Tryd.underlying36 hc0 6 _ rfl
 have t0_6:DataW.trod enc Tryd.prog W 0 (fun _=>true) true m0_6 4 (([c0_0,c0_1,c0_2,c0_3,c0_4,c0_5,c0_6,c0_7,c0_8,c0_9,c0_10].drop 6).take (Tryd.prog.cellsOf 4))=some y0_6:=g0_6
 rw[show Tryd.prog.cellsOf 4=1 from by kernel_rfl] at t0_6
 have u0_6:DataW.trod enc Tryd.prog W 0 (fun _=>true) true m0_6 4 [c0_6]=some y0_6:=t0_6
 obtain⟨m0_7,y0_7,g0_7⟩:=open_fld Tryd.underlying36 hc0 7 _ rfl
 have t0_7:DataW.trod enc Tryd.prog W 0 (fun _=>true) true m0_7 5 (([c0_0,c0_1,c0_2,c0_3,c0_4,c0_5,c0_6,c0_7,c0_8,c0_9,c0_10].drop 7).take (Tryd.prog.cellsOf 5))=some y0_7:=g0_7
 rw[show Tryd.prog.cellsOf 5=1 from by kernel_rfl] at t0_7
 have u0_7:DataW.trod enc Tryd.prog W 0 (fun _=>true) true m0_7 5 [c0_7]=some y0_7:=t0_7
 obtain⟨m0_8,y0_8,g0_8⟩:=open_fld Tryd.underlying36 hc0 8 _ rfl
 have t0_8:DataW.trod enc Tryd.prog W 0 (fun _=>true) true m0_8 5 (([c0_0,c0_1,c0_2,c0_3,c0_4,c0_5,c0_6,c0_7,c0_8,c0_9,c0_10].drop 8).take (Tryd.prog.cellsOf 5))=some y0_8:=g0_8
 rw[show Tryd.prog.cellsOf 5=1 from by kernel_rfl] at t0_8
 have u0_8:DataW.trod enc Tryd.prog W 0 (fun _=>true) true m0_8 5 [c0_8]=some y0_8:=t0_8
 obtain⟨m0_9,y0_9,g0_9⟩:=open_fld Tryd.underlying36 hc0 9 _ rfl
 have t0_9:DataW.trod enc Tryd.prog W 0 (fun _=>true) true m0_9 33 (([c0_0,c0_1,c0_2,c0_3,c0_4,c0_5,c0_6,c0_7,c0_8,c0_9,c0_10].drop 9).take (Tryd.prog.cellsOf 33))=some y0_9:=g0_9
 rw[show Tryd.prog.cellsOf 33=1 from by kernel_rfl] at t0_9
 have u0_9:DataW.trod enc Tryd.prog W 0 (fun _=>true) true m0_9 33 [c0_9]=some y0_9:=t0_9
 obtain⟨m0_10,y0_10,g0_10⟩:=open_fld Tryd.underlying36 hc0 10 _ rfl
 have t0_10:DataW.trod enc Tryd.prog W 0 (fun _=>true) true m0_10 34 (([c0_0,c0_1,c0_2,c0_3,c0_4,c0_5,c0_6,c0_7,c0_8,c0_9,c0_10].drop 10).take (Tryd.prog.cellsOf 34))=some y0_10:=g0_10
 rw[show Tryd.prog.cellsOf 34=1 from by kernel_rfl] at t0_10
 have u0_10:DataW.trod enc Tryd.prog W 0 (fun _=>true) true m0_10 34 [c0_10]=some y0_10:=t0_10
 obtain⟨a0_0,e0_0,x0_0,w0_0⟩:=DataW.trod_int Tryd.underlying3 u0_0
 obtain rfl:c0_0 = .int .i64 a0_0:=by simpa using e0_0
 obtain⟨a0_1,e0_1,x0_1,w0_1⟩:=DataW.trod_int Tryd.underlying33 u0_1
 obtain rfl:c0_1 = .int .u32 a0_1:=by simpa using e0_1
 obtain⟨a0_2,e0_2,x0_2⟩:=DataW.trod_bool Tryd.underlying4 u0_2
 obtain rfl:c0_2 = .bool a0_2:=by simpa using e0_2
 obtain⟨a0_3,e0_3,x0_3⟩:=DataW.trod_bool Tryd.underlying4 u0_3
 obtain rfl:c0_3 = .bool a0_3:=by simpa using e0_3
 obtain⟨a0_4,e0_4,x0_4⟩:=DataW.trod_bool Tryd.underlying4 u0_4
 obtain rfl:c0_4 = .bool a0_4:=by simpa using e0_4
 obtain⟨a0_5,e0_5,x0_5⟩:=DataW.trod_bool Tryd.underlying4 u0_5
 obtain rfl:c0_5 = .bool a0_5:=by simpa using e0_5
 obtain⟨a0_6,e0_6,x0_6⟩:=DataW.trod_bool Tryd.underlying4 u0_6
 obtain rfl:c0_6 = .bool a0_6:=by simpa using e0_6
 obtain⟨a0_7,e0_7,x0_7,w0_7⟩:=DataW.trod_int Tryd.underlying5 u0_7
 obtain rfl:c0_7 = .int .u8 a0_7:=by simpa using e0_7
 obtain⟨a0_8,e0_8,x0_8,w0_8⟩:=DataW.trod_int Tryd.underlying5 u0_8
 obtain rfl:c0_8 = .int .u8 a0_8:=by simpa using e0_8
 obtain⟨a0_9,e0_9,x0_9,w0_9⟩:=DataW.trod_int Tryd.underlying33 u0_9
 obtain rfl:c0_9 = .int .u32 a0_9:=by simpa using e0_9
 obtain⟨a0_10,cap0_10,l0_10,e0_10,hb0_10,n0_10⟩:=bytes_open u0_10
 subst e0_10
 refine (walk W (longer_of hL) a0_0 w0_0 a0_1 w0_1 a0_2 a0_3 a0_4 a0_5 a0_6 a0_7 w0_7 a0_8 w0_8 a0_9 w0_9 a0_10 cap0_10 l0_10 hb0_10 n0_10).mono fun e W' ⟨he,bel⟩ => ?_
 subst he
 exact⟨_,rfl,_,_,_,[],_,[],hW',trodAll_mk1 (shut_bool Tryd.underlying4 _),(trodAll_cons_mk (Below.trod laidOut (by kernel_rfl) (of_decide_eq_true (by kernel_rfl)) k0 bel lt0) trodAll_mk0),rfl,bel.frame _,fun h=>by cases h⟩
theorem over:Rows.fifoOwnRow.holds Tryd.pinned (OpenSpec.ofChange Rows.fifoOwnSpec) :=
 OpenClaim.holds_of_wide 6 Tryd.f6 rfl rfl rfl rfl rfl rfl rfl ⟨rfl,rfl,rfl,rfl,rfl⟩ rfl rfl rfl rfl rfl (by kernel_rfl) Tryd.func6 (by kernel_rfl)
  (of_decide_eq_true (by kernel_rfl)) (by unfold Func.isWrapper;first | (rw[if_pos (by decide +kernel)];kernel_rfl) | (rw[if_neg (by decide +kernel)];exact⟨rfl,rfl⟩))
  (fun os started H enc _=>lifted os started H enc)
theorem plain (f : FuncId) (fn : Func) (hf : Tryd.pinned.checked.prog.funcNamed "omnibus/omnibuslaw16.FifoOwn" = some f) (hfn : Tryd.pinned.checked.prog.funcs[f]? = some fn) :
    false=Tryd.pinned.checked.prog.looks []/\∀ (j:Nat) t,fn.params[j]? = some t->Tryd.pinned.checked.prog.wantsStandIn t=false:=by
 obtain rfl : f = 6 := Option.some.inj ((show Tryd.prog.funcNamed "omnibus/omnibuslaw16.FifoOwn" = some 6 by kernel_rfl).symm.trans hf) |>.symm
 obtain rfl:fn=Tryd.f6:=(Option.some.inj (Tryd.func6.symm.trans hfn)).symm
 refine⟨by kernel_rfl,fun j t ht => ?_⟩
 rw[Tryd.params6] at ht
 have hm:t∈[36]:=by have:=Array.mem_of_getElem? ht;simp at this ⊢;omega
 have hall:([36].all fun u => !Tryd.prog.wantsStandIn u)=true:=by kernel_rfl
 exact (show Tryd.prog.wantsStandIn t=false by simpa using List.all_eq_true.1 hall t hm)
theorem proved:Rows.FifoOwnCardSaid :=
 Claim7.holds_tied_plain_at .later [] _ _ _ _ over (fun _ h=>by cases h) (by kernel_rfl) (fun _ h=>by cases h) fifoOwn_row_tie rfl ⟨rfl,rfl⟩ (by kernel_rfl) rfl plain (by kernel_rfl)
#print axioms proved
end Go.Proofs.YtlmbggmamemmjaaDoor.fifoOwn
