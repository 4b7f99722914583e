/- For every number of places and all acts the law FifoActs answers true and leaves its arguments as they were; the package's table of longer sizes is tied to the program's text. No conditions. -/
import Derived.Test.YtlmbggmamemmjaaDoorRows
import Derived.Test.YtlmbggmamemmjaaDoorCards
import Derived.Test.YtlmbggmamemmjaaDoorTie
import Derived.Test.YtlmbggmamemmjaaDoorFiA
import Derived.Test.YtlmbggmamemmjaaDoorFiQ
import Derived.Test.YtlmbggmamemmjaaDoorFiS
import Derived.Test.YtlmbggmamemmjaaDoorActF
import Derived.Test.YtlmbggmamemmjaaDoorGe
import Derived.Test.YtlmbggmamemmjaaDoorGa
import Derived.Test.YtlmbggmamemmjaaDoorOrO
import Derived.WalkKit
import Derived.ProofKit
import Derived.OpenShut
import Derived.ShutString
import Derived.ChangeOld
import Derived.Below
import Derived.Carry
import Derived.Lib.SmallJoins
import Derived.Deep.RegionWith
import Derived.Deep.RegionHeld3
import Derived.LaidMore
import Derived.LaidLaws
import Derived.Stop.Joined
import Derived.SevenTiedAt
set_option maxHeartbeats 8000000
set_option maxRecDepth 100000
namespace Go.Proofs.YtlmbggmamemmjaaDoor.fifoActs
open Go.ChangeShapes Go.WideShapes Go.ChangeAt Go.RowKit Go.Joins
set_option linter.unusedVariables false
set_option linter.unusedSimpArgs false
theorem own:ownKnob Tryd.prog.godebug=none:=by kernel_rfl
theorem laidOut:laidOutB Tryd.prog=true:=by kernel_rfl
theorem walk (w:World) (hK:Longer w) (a0:Int) (w0:(Lit.int .i64 a0).wf=true) (a1:Option Addr) (cap1:Nat) (l1:List ActF) (h1:ActsF w a1 cap1 l1) (n1:a1=none->cap1=0) :
    Calls Tryd.prog 3 #[.int .i64 a0,.slice a1 l1.length cap1] w fun e w'=>e = .returned (.bool true)/\Nb w w':=by
 have HK:=Lib.hid hK
 have HT:=Lib.hid h1
 have AL:=Lib.hid (fun w' (n:Nb w w')=>alive16_any w' (hK.below n))
 have GR:=Lib.hid (fun w' (n:Nb w w')=>great16_any a1 cap1 l1 w' (HT.out.below n))
 have hL1:=h1.len
 clear hK h1 n1
 go_enter Tryd.func3,Tryd.ntmps3
 go_wp2_with fail
 refine (AL.out _ Nb.rfl).mono ?_
 rintro e w1 ⟨rfl,n1⟩
 have K1:=Lib.hid n1
 clear n1
 go_wp2_with fail
 refine (GR.out _ K1.out).mono ?_
 rintro e w2 ⟨r,rfl,hr,n2⟩
 have K2:=Lib.hid (K1.out.tr n2)
 clear n2
 cases r with
 | true =>
   clear hr
   go_wp2
   go_ret
   exact⟨rfl,K2.out⟩
 | false =>
   have hl300:=hr rfl
   clear hr
   by_cases hr:a0 < 0\/64 < a0
   ·have NB:=Lib.hid (newF_bad a0 hr w2)
    by_cases hneg:a0 < 0
    ·have d0:decide (a0 < 0)=true:=decide_eq_true hneg
     clear hr hneg w0
     go_wp2_with fail
     refine NB.out.mono ?_
     rintro e w3 ⟨rfl,n3⟩
     have K3:=Lib.hid (K2.out.tr n3)
     go_wp2
     go_ret
     exact⟨rfl,K3.out⟩
    ·have d0:decide (a0 < 0)=false:=decide_eq_false hneg
     have d1:decide (64 < a0)=true:=decide_eq_true (by omega)
     clear hr hneg w0
     go_wp2_with fail
     refine NB.out.mono ?_
     rintro e w3 ⟨rfl,n3⟩
     have K3:=Lib.hid (K2.out.tr n3)
     go_wp2
     go_ret
     exact⟨rfl,K3.out⟩
   obtain⟨room,rfl⟩:=Int.eq_ofNat_of_zero_le (show 0<=a0 by omega)
   have hn:room<=64:=by omega
   have d0:decide ((room:Int) < 0)=false:=decide_eq_false (by omega)
   have d1:decide ((64:Int) < (room:Int))=false:=decide_eq_false (by omega)
   have d1':decide (64 < room)=false:=decide_eq_false (by omega)
   clear hr w0
   go_wp2_with fail
   refine (newF_any room hn _).mono ?_
   rintro e w3 ⟨R,F,rfl,g1,g2,g3⟩
   have N3:=Lib.hid (show FiX w (w3.alloc (.cells #[.int .i64 (room:Nat),.int .i64 0,.slice none 0 0] 32)) (.pointer (some ⟨R,0,none⟩)) ⟨room,0,[]⟩ (fun k=>k=w3.heap.size\/False) from ((FiX.new g1 g2 g3 K2.out).addB _ _).less (fun k hk=>by rcases hk with h | h;exact .inr h;exact h.elim))
   have R3:=Lib.hid (RF.new w3 room)
   have M3:=Lib.hid (show w.heap.size<=w3.heap.size from (K2.out.tr g3).size)
   clear g1 g2 g3
   go_wp2
   generalize Value.pointer (some ⟨R,0,none⟩)=vq at *
   go_loopw [7,50] (fun mv ix wr=>∃ (k:Nat) (q:Fi) (m:Nat) (P:Nat->Prop),k<=l1.length/\ix = .int .i64 k/\mv = .pointer (some ⟨m,0,none⟩)/\RF wr m q P/\w.heap.size<=m/\(∀ k,P k->w.heap.size<=k)/\(q.over<=k/\q.room=room)/\FiX w wr vq q (fun k=>k=m\/P k)) (fun _ ix _=>l1.length - (intOf ix).toNat)
   case atStart=>exact⟨0,⟨room,0,[]⟩,w3.heap.size,fun _=>False,Nat.zero_le _,rfl,rfl,R3.out,M3.out,fun _ h=>h.elim,⟨Nat.le_refl _,rfl⟩,N3.out⟩
   case round =>
    obtain⟨k,q,m,P,hk,rfl,rfl,hR,hM,hP,hov,hN⟩:=hrel
    have N:=Lib.hid hN
    have RR:=Lib.hid hR
    have HM:=Lib.hid hM
    have HP:=Lib.hid hP
    have HO:=Lib.hid hov
    clear hN hR hM hP hov N3 R3 M3
    by_cases hlt:k < l1.length
    ·have hlt':decide ((k:Int) < (l1.length:Int))=true:=decide_eq_true (by omega)
     obtain⟨⟨kd,⟨Kf,If,Xf,Rf,Bf,Ef,Sf,Df,Vf,Af⟩,lf⟩,hx⟩:∃ x,l1.getD k dAF=x:=⟨_,rfl⟩
     obtain⟨bf,of,rfl,-⟩:=HT.out.hcells (by omega)
     obtain⟨pf,qf,hat⟩:=HT.out.at hlt hx
     have AT:=Lib.hid hat
     obtain⟨⟨v0,v1,v2,v3,v4,v5,v6,v7,v8,v9,v10,v11⟩,_⟩:=AT.out wr N.out.nb
     clear hat hx
     obtain⟨QA,hQ⟩:∃ Q,Q=wr.heap.size:=⟨_,rfl⟩
     obtain⟨uA,hu⟩:∃ u,u=wr.alloc (.cells #[.int .i64 kd,.int .i64 Kf,.int .u32 If,.bool Xf,.bool Rf,.bool Bf,.bool Ef,.bool Sf,.int .u8 Df,.int .u8 Vf,.int .u32 Af,.slice pf lf.length qf] 38):=⟨_,rfl⟩
     have HU:=Lib.hid hu
     have HQ:=Lib.hid hQ
     have NU:=Lib.hid (show FiX w uA vq q (fun k=>(k=m\/P k)\/k=QA) by rw[hu,hQ];exact N.out.addB _ _)
     have BU:=Lib.hid (show Blk uA QA #[.int .i64 kd,.int .i64 Kf,.int .u32 If,.bool Xf,.bool Rf,.bool Bf,.bool Ef,.bool Sf,.int .u8 Df,.int .u8 Vf,.int .u32 Af,.slice pf lf.length qf] 38 by rw[hu,hQ];exact Blk.new _ _ _)
     have RU:=Lib.hid (show RF uA m q P by rw[hu];exact RR.out.nb (Nb.rfl.al _))
     clear N RR
     by_cases hk1:kd=1
     ·subst hk1
      have po:=NU.out.pop
      obtain⟨⟨⟨Kx,Ix,Xx,Rx,Bx,Ex,Sx,Dx,Vx,Ax⟩,lx⟩,hx⟩:∃ x,q.head=x:=⟨_,rfl⟩
      rw[hx] at po
      simp only[Hd.cs] at po
      have PO:=Lib.hid po
      have HX:=Lib.hid hx
      clear po hx hu hQ
      go_wp2_with fail
      rw[<- HU.out]
      refine PO.out.mono ?_
      rintro e w4 ⟨ax,cx,Px,G,rfl,dx,gp,gk,gX,gw,hn⟩
      obtain⟨QX,hQ⟩:∃ Q,Q=w4.heap.size:=⟨_,rfl⟩
      obtain⟨uX,hu⟩:∃ u,u=w4.alloc (.cells #[.int .i64 Kx,.int .u32 Ix,.bool Xx,.bool Rx,.bool Bx,.bool Ex,.bool Sx,.int .u8 Dx,.int .u8 Vx,.int .u32 Ax,.slice ax lx.length cx] 36):=⟨_,rfl⟩
      have NX:=Lib.hid (show FiX w uX vq q.pop (fun k=>((k=m\/P k)\/Px k)\/k=QX) by rw[hu,hQ];exact (hn.addB _ _).less (fun k hk=>by
       rcases hk with (h | h) | h
       ·exact .inl (.inl (.inl h))
       ·exact .inl (.inr h)
       ·exact .inr h))
      have BX:=Lib.hid (show Blk uX QX #[.int .i64 Kx,.int .u32 Ix,.bool Xx,.bool Rx,.bool Bx,.bool Ex,.bool Sx,.int .u8 Dx,.int .u8 Vx,.int .u32 Ax,.slice ax lx.length cx] 36 by rw[hu,hQ];exact Blk.new _ _ _)
      have DX:=Lib.hid (show DatP uX ax cx lx Px by rw[hu];exact dx.nb (Nb.rfl.al _))
      have RX:=Lib.hid (show RF uX m q P by rw[hu];exact (RU.out.keep gk (gX m (.inl (.inl rfl))) (fun k hk=>gX k (.inl (.inr hk)))).nb (Nb.rfl.al _))
      have HPX:=Lib.hid (show ∀ k,Px k->¬k=m from fun k hk e=>by
       obtain⟨_,_,hb,_⟩:=RU.out
       have:=hb.lt
       have:=(gp k hk).1
       omega)
      have HMX:=Lib.hid (show ¬QX=m from fun e=>by
       obtain⟨_,_,hb,_⟩:=RU.out.keep gk (gX m (.inl (.inl rfl))) (fun k hk=>gX k (.inl (.inr hk)))
       have:=hb.lt
       omega)
      have HU2:=Lib.hid hu
      have HQ2:=Lib.hid hQ
      have po:=refpopF_any m q P uX RX.out
      rw[HX.out] at po
      simp only[Hd.cs] at po
      have PO2:=Lib.hid po
      clear po dx gp gk gX gw hn hu hQ PO NU BU RU
      go_wp2_with fail
      rw[<- HU2.out]
      refine PO2.out.mono ?_
      rintro e w5 ⟨ay,cy,rfl,by5,hr5,k5⟩
      obtain⟨QY,hQ⟩:∃ Q,Q=w5.heap.size:=⟨_,rfl⟩
      obtain⟨uY,hu⟩:∃ u,u=w5.alloc (.cells #[.int .i64 Kx,.int .u32 Ix,.bool Xx,.bool Rx,.bool Bx,.bool Ex,.bool Sx,.int .u8 Dx,.int .u8 Vx,.int .u32 Ax,.slice ay lx.length cy] 36):=⟨_,rfl⟩
      have hmx:¬QX=m:=HMX.out
      have NY:=Lib.hid (show FiX w uY vq q.pop (fun k=>k=m\/P k) by rw[hu];exact ((NX.out.keepX k5 (fun y hy=>by subst hy;exact⟨.inl (.inl (.inl rfl)),HM.out⟩)).less (fun k hk => .inl (.inl hk))).keep (Nb.rfl.al _))
      have BX5:=Lib.hid (BX.out.keep k5 hmx)
      have DX5:=Lib.hid (show Bs uY ax cx lx by rw[hu];exact ((DX.out.keep k5 HPX.out).nb (Nb.rfl.al _)).1)
      have DY5:=Lib.hid (show Bs uY ay cy lx by rw[hu];exact by5.below (Nb.rfl.al _))
      have RY:=Lib.hid (show RF uY m q.pop P by rw[hu];exact hr5.nb (Nb.rfl.al _))
      have SA:=Lib.hid (refsame5_any ⟨Kx,Ix,Xx,Rx,Bx,Ex,Sx,Dx,Vx,Ax⟩ ⟨Kx,Ix,Xx,Rx,Bx,Ex,Sx,Dx,Vx,Ax⟩ ax ay cx cy lx lx uY DX5.out DY5.out)
      rw[sameF_rfl] at SA
      simp only[Hd.cs] at SA
      have HU3:=Lib.hid hu
      obtain⟨c0,c1,c2,c3,c4,c5,c6,c7,c8,c9,c10⟩:=BX5.out.c11
      rw[HQ2.out] at c0 c1 c2 c3 c4 c5 c6 c7 c8 c9 c10
      have hqq:w4.heap.size < w5.heap.size:=by have:=BX5.out.lt;rw[HQ2.out] at this;exact this
      clear by5 hr5 k5 hu hQ hmx NX BX DX RX PO2
      go_wp2_with fail
      rw[<- HU3.out]
      refine SA.out.mono ?_
      rintro e w6 ⟨rfl,n6⟩
      have NT:=Lib.hid (NY.out.keep n6)
      have RT:=Lib.hid (RY.out.nb n6)
      clear n6 NY RY c0 c1 c2 c3 c4 c5 c6 c7 c8 c9 c10
      obtain⟨aL,cL,hbL,hiL,hPm,hPl,hnL⟩:=RT.out
      have r1:=hbL.cell 1
      have r2:=hbL.cell 2
      simp only[List.getElem?_toArray,List.getElem?_cons_zero,List.getElem?_cons_succ] at r1 r2
      have SS:=Lib.hid (fun w' (n:Nb w6 w')=>(show w'.cell? ⟨m,1,none⟩=some (.int .i64 (q.pop.over:Nat))/\w'.cell? ⟨m,2,none⟩=some (.slice aL q.pop.its.length cL) from ⟨(hbL.nb n).cell 1,(hbL.nb n).cell 2⟩))
      have NB:=Lib.hid (Nb.drewN w6 1:Nb w6 w6.drew)
      have LE:=Lib.hid (fun w' (n:Nb w6 w')=>(NT.out.keep n).len)
      have OV:=Lib.hid (fun w' (n:Nb w6 w')=>(NT.out.keep n).over)
      have AA:=Lib.hid (fun w' (n:Nb w6 w')=>(NT.out.keep n).all)
      have SM:=Lib.hid (fun w' (n:Nb w6 w') aA cA (h:FrR w' aA cA q.pop.its)=>sames16_any q.pop.its aA aL cA cL w' h (hiL.rd.nb n))
      have HL:=Lib.hid hiL.rd.len
      clear hbL hiL hPm hPl hnL
      obtain⟨s1,s2⟩:=SS.out _ NB.out
      go_wp2_with fail
      go_region_held3 (fun w'=>w'.cell? ⟨m,1,none⟩=some (.int .i64 (q.pop.over:Nat))/\w'.cell? ⟨m,2,none⟩=some (.slice aL q.pop.its.length cL)) (first | exact SS.out _ NB.out | go_keep)
       (first
        | (go_at_call 19;refine (LE.out _ NB.out).mono ?_;rintro e w9 ⟨rfl,n9⟩;have NB:=Lib.hid (NB.out.tr n9);clear n9)
        | (go_at_call 20;refine (OV.out _ NB.out).mono ?_;rintro e w9 ⟨rfl,n9⟩;have NB:=Lib.hid (NB.out.tr n9);clear n9)
        | (go_at_call 21;refine (AA.out _ NB.out).mono ?_;rintro e w9 ⟨aA,cA,PA,rfl,hfA,-,n9,-,-⟩;have FA:=Lib.hid hfA.rd;have NB:=Lib.hid (NB.out.tr n9);clear n9 hfA)
        | (go_at_call 15;refine (SM.out _ NB.out aA cA FA.out).mono ?_;rintro e w9 ⟨rfl,n9⟩;have NB:=Lib.hid (NB.out.tr n9);clear n9))
      all_goals clear r1 r2 s1 s2 LE OV AA SM SS
      all_goals go_wp2
      all_goals go_roundw
      case rel=>exact⟨k+1,q.pop,m,P,by omega,by go_num,rfl,RT.out.nb NB.out,HM.out,HP.out,(show q.over<=k+1/\q.room=room from ⟨by have:=HO.out;omega,HO.out.2⟩),NT.out.keep NB.out⟩
      case measure=>simp[intOf];omega
     have dk1:(kd==1)=false:=beq_eq_false_iff_ne.2 hk1
     by_cases hk2:kd=2
     ·subst hk2
      obtain⟨aL,cL,hbL,hiL,hPm,hPl,hnL⟩:=RU.out
      have r2:=hbL.cell 2
      simp only[List.getElem?_toArray,List.getElem?_cons_zero,List.getElem?_cons_succ] at r2
      have hml:m < uA.heap.size:=hbL.lt
      have CL:=Lib.hid (fun w' (n:Nb uA w')=>(NU.out.keep n).clear)
      have HB:=Lib.hid hbL
      have HI:=Lib.hid hiL
      have HCL:=Lib.hid (show q.clear=⟨room,0,[]⟩ by unfold Fi.clear;rw[HO.out.2])
      have r3:uA.drew.cell? ⟨m,2,none⟩=some (.slice aL q.its.length cL):=(hbL.nb (Nb.drewN uA 1)).cell 2
      clear hbL hiL hPm hPl hnL hu hQ RU BU
      go_wp2_with fail
      rw[<- HU.out]
      go_region_with (first
       | (go_at_call 16;refine (CL.out _ (Nb.drewN uA 1)).mono ?_;rintro e w4 ⟨aC,cC,PC,G,rfl,hfC,gpC,gk,gX,gw,hn,-⟩;have N4:=Lib.hid (hn.less (Y:=fun _=>False) (fun k hk=>hk.elim));have r4:=((HB.out.nb (Nb.drewN uA 1)).keep gk (gX m (.inl (.inl rfl)))).cell 2;have SM:=Lib.hid (sames16_any q.its aC aL cC cL w4 hfC.rd (((HI.out.nb (Nb.drewN uA 1)).keep gk (fun k hk=>gX k (.inl (.inr hk)))).rd));clear hfC gpC gk gX gw hn)
       | (go_at_call 15;refine SM.out.mono ?_;rintro e w5 ⟨rfl,n5⟩;have N5:=Lib.hid (N4.out.keep n5);clear n5))
      all_goals clear r2 r3 r4 CL SM HB HI NU N4
      all_goals go_wp2_with fail
      all_goals (
       obtain⟨uM,hu⟩:∃ u,u=w5.alloc (.cells #[.int .i64 (room:Nat),.int .i64 0,.slice none 0 0] 32):=⟨_,rfl⟩
       obtain⟨mm,hmm⟩:∃ m',m'=w5.heap.size:=⟨_,rfl⟩
       obtain⟨q0,hq0⟩:∃ q0:Fi,q0=⟨room,0,[]⟩:=⟨_,rfl⟩
       have NT:=Lib.hid (show FiX w uM vq q0 (fun k=>k=mm\/(fun _:Nat=>False) k) by
        rw[hu,hmm,hq0]
        have h:=N5.out
        rw[HCL.out] at h
        exact (h.addB _ _).less (fun k hk=>by
         rcases hk with h | h
         ·exact .inr h
         ·exact h.elim))
       have RT:=Lib.hid (show RF uM mm q0 (fun _=>False) by rw[hu,hmm,hq0];exact RF.new w5 room)
       have HM:=Lib.hid (show w.heap.size<=mm by rw[hmm];exact N5.out.nb.size)
       have HP:=Lib.hid (show ∀ k,(fun _:Nat=>False) k->w.heap.size<=k from fun k h=>h.elim)
       have HO2:=Lib.hid (show q0.over<=k+1/\q0.room=room by rw[hq0];exact⟨Nat.zero_le _,rfl⟩)
       rw[<- hu,<- hmm]
       clear hu hmm hq0 N5 HO
       obtain⟨aL,cL,hbL,hiL,hPm,hPl,hnL⟩:=RT.out
       have r1:=hbL.cell 1
       have r2:=hbL.cell 2
       simp only[List.getElem?_toArray,List.getElem?_cons_zero,List.getElem?_cons_succ] at r1 r2
       have SS:=Lib.hid (fun w' (n:Nb uM w')=>(show w'.cell? ⟨mm,1,none⟩=some (.int .i64 (q0.over:Nat))/\w'.cell? ⟨mm,2,none⟩=some (.slice aL q0.its.length cL) from ⟨(hbL.nb n).cell 1,(hbL.nb n).cell 2⟩))
       have NB:=Lib.hid (Nb.drewN uM 1:Nb uM uM.drew)
       have LE:=Lib.hid (fun w' (n:Nb uM w')=>(NT.out.keep n).len)
       have OV:=Lib.hid (fun w' (n:Nb uM w')=>(NT.out.keep n).over)
       have AA:=Lib.hid (fun w' (n:Nb uM w')=>(NT.out.keep n).all)
       have SM:=Lib.hid (fun w' (n:Nb uM w') aA cA (h:FrR w' aA cA q0.its)=>sames16_any q0.its aA aL cA cL w' h (hiL.rd.nb n))
       have HL:=Lib.hid hiL.rd.len
       clear hbL hiL hPm hPl hnL
       obtain⟨s1,s2⟩:=SS.out _ NB.out
       go_wp2_with fail
       go_region_held3 (fun w'=>w'.cell? ⟨mm,1,none⟩=some (.int .i64 (q0.over:Nat))/\w'.cell? ⟨mm,2,none⟩=some (.slice aL q0.its.length cL)) (first | exact SS.out _ NB.out | go_keep)
        (first
         | (go_at_call 19;refine (LE.out _ NB.out).mono ?_;rintro e w9 ⟨rfl,n9⟩;have NB:=Lib.hid (NB.out.tr n9);clear n9)
         | (go_at_call 20;refine (OV.out _ NB.out).mono ?_;rintro e w9 ⟨rfl,n9⟩;have NB:=Lib.hid (NB.out.tr n9);clear n9)
         | (go_at_call 21;refine (AA.out _ NB.out).mono ?_;rintro e w9 ⟨aA,cA,PA,rfl,hfA,-,n9,-,-⟩;have FA:=Lib.hid hfA.rd;have NB:=Lib.hid (NB.out.tr n9);clear n9 hfA)
         | (go_at_call 15;refine (SM.out _ NB.out aA cA FA.out).mono ?_;rintro e w9 ⟨rfl,n9⟩;have NB:=Lib.hid (NB.out.tr n9);clear n9))
       all_goals clear r1 r2 s1 s2 LE OV AA SM SS
       all_goals go_wp2
       all_goals go_roundw
       case rel=>exact⟨k+1,q0,mm,(fun _=>False),by omega,by go_num,rfl,RT.out.nb NB.out,HM.out,HP.out,by exact HO2.out,NT.out.keep NB.out⟩
       case measure=>simp[intOf];omega)
     ·have dk2:(kd==2)=false:=beq_eq_false_iff_ne.2 hk2
      have hp:=NU.out.push ⟨Kf,If,Xf,Rf,Bf,Ef,Sf,Df,Vf,Af⟩ pf qf lf (HK.out.below NU.out.nb) (AT.out _ NU.out.nb).2.1 (by have:=HO.out;omega)
      have hdp:=fun w' (h:RF w' m q P) (n:Nb w w')=>refpushF_any m q P ⟨Kf,If,Xf,Rf,Bf,Ef,Sf,Df,Vf,Af⟩ pf qf lf w' h NU.out.ok (by have:=HO.out;omega) (AT.out w' n).2.1 (AT.out w' n).2.2
      have HO2:=Lib.hid (show (q.push ⟨Kf,If,Xf,Rf,Bf,Ef,Sf,Df,Vf,Af⟩ lf).over<=k+1/\(q.push ⟨Kf,If,Xf,Rf,Bf,Ef,Sf,Df,Vf,Af⟩ lf).room=room from ⟨Nat.le_trans (Fi.push_over _ _ _) (by have:=HO.out;omega),by rw[Fi.push_room];exact HO.out.2⟩)
      simp only[Hd.cs] at hp hdp
      generalize q.push ⟨Kf,If,Xf,Rf,Bf,Ef,Sf,Df,Vf,Af⟩ lf=q1 at *
      generalize q.pushB ⟨Kf,If,Xf,Rf,Bf,Ef,Sf,Df,Vf,Af⟩ lf=pb at *
      generalize checkN ⟨Kf,If,Xf,Rf,Bf,Ef,Sf,Df,Vf,Af⟩ lf=ck at *
      have HPP:=Lib.hid hp
      have HDP:=Lib.hid hdp
      clear hp hdp hu hQ
      go_wp2_with fail
      rw[<- HU.out]
      refine HPP.out.mono ?_
      rintro e w4 ⟨G,rfl,gk,gX,gw,hn⟩
      have N4:=Lib.hid hn
      have R4:=Lib.hid (RU.out.keep gk (gX m (.inl (.inl rfl))) (fun k hk=>gX k (.inl (.inr hk))))
      obtain⟨c0,c1,c2,c3,c4,c5,c6,c7,c8,c9,c10,c11⟩:=(BU.out.keep gk (gX QA (.inr rfl))).c12f
      rw[HQ.out] at c0 c1 c2 c3 c4 c5 c6 c7 c8 c9 c10 c11
      clear hn gk gX gw HPP NU BU RU HU
      go_wp2_with fail
      refine (HDP.out _ R4.out N4.out.nb).mono ?_
      rintro e w5 ⟨rfl,P',hr5,k5,hP5⟩
      have RT:=Lib.hid hr5
      have HP':=Lib.hid HP
      have HP:=Lib.hid (show ∀ k,P' k->w.heap.size<=k from fun k hk=>by
       rcases hP5 k hk with h | h
       ·exact HP'.out.out k h
       ·exact Nat.le_trans N4.out.nb.size h)
      have NT:=Lib.hid (show FiX w w5 vq q1 (fun k=>k=m\/P' k) from N4.out.turnX k5 (fun y hy=>by subst hy;exact⟨.inl (.inl rfl),HM.out⟩) (fun y hy=>by
       obtain⟨_,_,hb,_,_,hl,_⟩:=hr5
       rcases hy with rfl | h
       ·exact⟨.inl (.inl (.inl rfl)),hb.lt⟩
       ·refine⟨?_,hl y h⟩
        rcases hP5 y h with g | g
        ·exact .inl (.inl (.inr g))
        ·exact .inr g))
      clear hr5 k5 hP5 HP' N4 R4 HDP HO c0 c1 c2 c3 c4 c5 c6 c7 c8 c9 c10 c11
      obtain⟨aL,cL,hbL,hiL,hPm,hPl,hnL⟩:=RT.out
      have r1:=hbL.cell 1
      have r2:=hbL.cell 2
      simp only[List.getElem?_toArray,List.getElem?_cons_zero,List.getElem?_cons_succ] at r1 r2
      have SS:=Lib.hid (fun w' (n:Nb w5 w')=>(show w'.cell? ⟨m,1,none⟩=some (.int .i64 (q1.over:Nat))/\w'.cell? ⟨m,2,none⟩=some (.slice aL q1.its.length cL) from ⟨(hbL.nb n).cell 1,(hbL.nb n).cell 2⟩))
      have NB:=Lib.hid (Nb.drewN w5 1:Nb w5 w5.drew)
      have LE:=Lib.hid (fun w' (n:Nb w5 w')=>(NT.out.keep n).len)
      have OV:=Lib.hid (fun w' (n:Nb w5 w')=>(NT.out.keep n).over)
      have AA:=Lib.hid (fun w' (n:Nb w5 w')=>(NT.out.keep n).all)
      have SM:=Lib.hid (fun w' (n:Nb w5 w') aA cA (h:FrR w' aA cA q1.its)=>sames16_any q1.its aA aL cA cL w' h (hiL.rd.nb n))
      have HL:=Lib.hid hiL.rd.len
      clear hbL hiL hPm hPl hnL
      obtain⟨s1,s2⟩:=SS.out _ NB.out
      go_wp2_with fail
      go_region_held3 (fun w'=>w'.cell? ⟨m,1,none⟩=some (.int .i64 (q1.over:Nat))/\w'.cell? ⟨m,2,none⟩=some (.slice aL q1.its.length cL)) (first | exact SS.out _ NB.out | go_keep)
       (first
        | (go_at_call 19;refine (LE.out _ NB.out).mono ?_;rintro e w9 ⟨rfl,n9⟩;have NB:=Lib.hid (NB.out.tr n9);clear n9)
        | (go_at_call 20;refine (OV.out _ NB.out).mono ?_;rintro e w9 ⟨rfl,n9⟩;have NB:=Lib.hid (NB.out.tr n9);clear n9)
        | (go_at_call 21;refine (AA.out _ NB.out).mono ?_;rintro e w9 ⟨aA,cA,PA,rfl,hfA,-,n9,-,-⟩;have FA:=Lib.hid hfA.rd;have NB:=Lib.hid (NB.out.tr n9);clear n9 hfA)
        | (go_at_call 15;refine (SM.out _ NB.out aA cA FA.out).mono ?_;rintro e w9 ⟨rfl,n9⟩;have NB:=Lib.hid (NB.out.tr n9);clear n9))
      all_goals clear r1 r2 s1 s2 LE OV AA SM SS
      all_goals go_wp2
      all_goals go_roundw
      case rel=>exact⟨k+1,q1,m,P',by omega,by go_num,rfl,RT.out.nb NB.out,HM.out,HP.out,by exact HO2.out,NT.out.keep NB.out⟩
      case measure=>simp[intOf];omega
    ·have hlt':decide ((k:Int) < (l1.length:Int))=false:=decide_eq_false (by omega)
     go_wp2
     go_ret
     exact⟨rfl,N.out.nb⟩
theorem door_met (os:Os) (args:Array Value):laidMetH Tryd.prog Rows.fifoActsRow.laid ((World.doorLaid Tryd.prog 14 os).forCall (fun _ _=>0) ⟨#[],args,[]⟩).memory :=
 laidMetH_of_parts3 (fuel:=8) (laidMet_of_run' 8 (by kernel_rfl) (by kernel_rfl)) (by kernel_rfl) (by kernel_rfl)
theorem lifted (os:Os) (started:os.Started) (H:Type) (enc:TypeId × Value->H) :
    ReturnsInHanded {} Tryd.checked os 3 .any (fun w args=>(Rows.fifoActsSpec.pre enc Tryd.prog Tryd.f3 [] false w args/\laidMetH Tryd.prog Rows.fifoActsRow.laid w)/\sizedMet enc Tryd.prog Tryd.f3 (OpenSpec.ofChange Rows.fifoActsSpec) false w args)
     (Rows.fifoActsSpec.post enc Tryd.prog Tryd.f3 false true false false):=by
 refine returnsInHanded_of_change_and (C:=Tryd.checked) (X:=fun w _=>laidMetH Tryd.prog Rows.fifoActsRow.laid w) (fun _ _ _ hh h=>h.of_heap hh) own started (by kernel_rfl) Tryd.func3
  (ChangeSpec.witness_shaped (enc:=enc) (C:=Tryd.checked) (os:=os) (X:=fun w _=>laidMetH Tryd.prog Rows.fifoActsRow.laid w) false (World.doorLaid Tryd.prog 14 os) #[.int .i64 0,.slice none 0 0] 8 rfl (World.shaped_of_RefB (by kernel_rfl) (by kernel_rfl)) (by kernel_rfl) (by kernel_rfl) (by kernel_rfl) (door_met os _)) ?_
 intro W base args ds gs before hval0 hW _ hR hL _
 have hval:∀ (j:Nat) t v,Tryd.f3.params[j]? = some t->args[j]? = some v->Value.okWide Tryd.prog W .any base t v:=hval0
 have hW':=hW
 obtain⟨p,q,hA0,hV,rfl,hfz,hnd⟩:=hW
 have hA:DataW.TrodAll enc Tryd.prog W 0 (fun _=>true) true Tryd.f3.params.toList args.toList ds p:=hA0
 rw[Tryd.params3] at hA hval
 obtain⟨v0,vs0,d0,ds0,p0,q0,hargs,rfl,rfl,h0,r0⟩:=trodAll_cons hA
 obtain⟨v1,vs1,d1,ds1,p1,q1,rfl,rfl,rfl,h1,r1⟩:=trodAll_cons r0
 obtain⟨rfl,rfl,rfl⟩:=trodAll_nil r1
 obtain rfl:args=#[v0,v1]:=by cases args;simp_all
 obtain⟨rfl,rfl⟩:=trodVars_none hV
 have k0:=h0
 have lt0:∀ x∈p0,x.block < W.heap.size:=by obtain⟨m,hm⟩:=k0;exact DataW.trod_lt m _ _ _ hm
 have k1:=h1
 have lt1:∀ x∈p1,x.block < W.heap.size:=by obtain⟨m,hm⟩:=k1;exact DataW.trod_lt m _ _ _ hm
 clear hA0
 obtain⟨a0,rfl,rfl,rfl,w0⟩:=open_int Tryd.underlying3 (hval 0 3 v0 rfl rfl) h0
 obtain⟨a1,lc1,cap1,rfl⟩:=okWide_slice Tryd.underlying22 (hval 1 22 v1 rfl rfl)
 obtain⟨fu1,hf1⟩:=h1
 have hc1:DataW.trod enc Tryd.prog W 0 (fun _=>true) true fu1 22 [.slice a1 lc1 cap1]=some (d1,p1):=hf1
 obtain⟨b1,cb1,l1,e1,hb1,n1⟩:=actsf_open hc1
 simp only[Value.slice.injEq] at e1
 obtain⟨rfl,rfl,rfl⟩:=e1
 refine (walk W (longer_of hL) a0 w0 a1 cap1 l1 hb1 n1).mono fun e W' ⟨he,bel⟩ => ?_
 subst he
 exact⟨_,rfl,_,_,_,[],_,[],hW',trodAll_mk1 (shut_bool Tryd.underlying4 _),(trodAll_cons_mk (Below.trod laidOut (by kernel_rfl) (of_decide_eq_true (by kernel_rfl)) k0 bel lt0) (trodAll_cons_mk (Below.trod laidOut (by kernel_rfl) (of_decide_eq_true (by kernel_rfl)) k1 bel lt1) trodAll_mk0)),rfl,bel.frame _,fun h=>by cases h⟩
theorem over:Rows.fifoActsRow.holds Tryd.pinned (OpenSpec.ofChange Rows.fifoActsSpec) :=
 OpenClaim.holds_of_wide 3 Tryd.f3 rfl rfl rfl rfl rfl rfl rfl ⟨rfl,rfl,rfl,rfl,rfl⟩ rfl rfl rfl rfl rfl (by kernel_rfl) Tryd.func3 (by kernel_rfl)
  (of_decide_eq_true (by kernel_rfl)) (by unfold Func.isWrapper;first | (rw[if_pos (by decide +kernel)];kernel_rfl) | (rw[if_neg (by decide +kernel)];exact⟨rfl,rfl⟩))
  (fun os started H enc _=>lifted os started H enc)
theorem plain (f : FuncId) (fn : Func) (hf : Tryd.pinned.checked.prog.funcNamed "omnibus/omnibuslaw16.FifoActs" = some f) (hfn : Tryd.pinned.checked.prog.funcs[f]? = some fn) :
    false=Tryd.pinned.checked.prog.looks []/\∀ (j:Nat) t,fn.params[j]? = some t->Tryd.pinned.checked.prog.wantsStandIn t=false:=by
 obtain rfl : f = 3 := Option.some.inj ((show Tryd.prog.funcNamed "omnibus/omnibuslaw16.FifoActs" = some 3 by kernel_rfl).symm.trans hf) |>.symm
 obtain rfl:fn=Tryd.f3:=(Option.some.inj (Tryd.func3.symm.trans hfn)).symm
 refine⟨by kernel_rfl,fun j t ht => ?_⟩
 rw[Tryd.params3] at ht
 have hm:t∈[3,22]:=by have:=Array.mem_of_getElem? ht;simp at this ⊢;omega
 have hall:([3,22].all fun u => !Tryd.prog.wantsStandIn u)=true:=by kernel_rfl
 exact (show Tryd.prog.wantsStandIn t=false by simpa using List.all_eq_true.1 hall t hm)
theorem proved:Rows.FifoActsCardSaid :=
 Claim7.holds_tied_plain_at .later [] _ _ _ _ over (fun _ h=>by cases h) (by kernel_rfl) (fun _ h=>by cases h) fifoActs_row_tie rfl ⟨rfl,rfl⟩ (by kernel_rfl) rfl plain (by kernel_rfl)
#print axioms proved
end Go.Proofs.YtlmbggmamemmjaaDoor.fifoActs
