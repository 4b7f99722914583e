/- For every number of places and all acts the law QueueActs answers true and leaves its arguments as they were; the package's table of longer sizes is tied to the program's text. No conditions. -/
import Derived.Test.YtdedoeeekcfkpaaDoorRows
import Derived.Test.YtdedoeeekcfkpaaDoorCards
import Derived.Test.YtdedoeeekcfkpaaDoorTie
import Derived.Test.YtdedoeeekcfkpaaDoorGqc
import Derived.Test.YtdedoeeekcfkpaaDoorQuS
import Derived.Test.YtdedoeeekcfkpaaDoorQuZ
import Derived.Test.YtdedoeeekcfkpaaDoorGrtQ
import Derived.Test.YtdedoeeekcfkpaaDoorGor
import Derived.Test.YtdedoeeekcfkpaaDoorGj
import Derived.Test.YtdedoeeekcfkpaaDoorGe
import Derived.Test.YtdedoeeekcfkpaaDoorGa
import Derived.WalkKit
import Derived.ProofKit
import Derived.OpenShut
import Derived.ShutString
import Derived.ChangeOld
import Derived.Below
import Derived.Carry
import Derived.Lib.SmallJoins
import Derived.Deep.RegionWith
import Derived.Deep.RegionHeld3
import Derived.LaidMore
import Derived.LaidLaws
import Derived.Stop.Joined
import Derived.SevenTiedAt
set_option maxHeartbeats 8000000
set_option maxRecDepth 100000
namespace Go.Proofs.YtdedoeeekcfkpaaDoor.queueActs
open Go.ChangeShapes Go.WideShapes Go.ChangeAt Go.RowKit Go.Joins
set_option linter.unusedVariables false
set_option linter.unusedSimpArgs false
theorem own:ownKnob Tryd.prog.godebug=none:=by kernel_rfl
theorem laidOut:laidOutB Tryd.prog=true:=by kernel_rfl
theorem walk (w:World) (hK:Longer w) (a0:Int) (w0:(Lit.int .i64 a0).wf=true) (a1:Option Addr) (cap1:Nat) (l1:List ActQ) (h1:ActsQ w a1 cap1 l1) (n1:a1=none->cap1=0) :
    Calls Tryd.prog 3 #[.int .i64 a0,.slice a1 l1.length cap1] w fun e w'=>e = .returned (.bool true)/\Nb w w':=by
 have HK:=Lib.hid hK
 have HT:=Lib.hid h1
 have AL:=Lib.hid (fun w' (n:Nb w w')=>alive14_any w' (hK.below n))
 have GR:=Lib.hid (fun w' (n:Nb w w')=>great14_any a1 cap1 l1 w' (HT.out.below n))
 have hL1:=h1.len
 clear hK h1 n1
 go_enter Tryd.func3,Tryd.ntmps3
 go_wp2_with fail
 refine (AL.out _ Nb.rfl).mono ?_
 rintro e w1 ⟨rfl,n1⟩
 have K1:=Lib.hid n1
 clear n1
 go_wp2_with fail
 refine (GR.out _ K1.out).mono ?_
 rintro e w2 ⟨r,rfl,hr,n2⟩
 have K2:=Lib.hid (K1.out.tr n2)
 clear n2
 cases r with
 | true =>
   clear hr
   go_wp2
   go_ret
   exact⟨rfl,K2.out⟩
 | false =>
   have hl200:=hr rfl
   clear hr
   by_cases hr:a0 < 0\/64 < a0
   ·have NB:=Lib.hid (newQ_bad a0 hr w2 (HK.out.below K2.out))
    by_cases hneg:a0 < 0
    ·have d0:decide (a0 < 0)=true:=decide_eq_true hneg
     clear hr hneg w0
     go_wp2_with fail
     refine NB.out.mono ?_
     rintro e w3 ⟨rfl,n3⟩
     have K3:=Lib.hid (K2.out.tr n3)
     go_wp2
     go_ret
     exact⟨rfl,K3.out⟩
    ·have d0:decide (a0 < 0)=false:=decide_eq_false hneg
     have d1:decide (64 < a0)=true:=decide_eq_true (by omega)
     clear hr hneg w0
     go_wp2_with fail
     refine NB.out.mono ?_
     rintro e w3 ⟨rfl,n3⟩
     have K3:=Lib.hid (K2.out.tr n3)
     go_wp2
     go_ret
     exact⟨rfl,K3.out⟩
   obtain⟨n,rfl⟩:=Int.eq_ofNat_of_zero_le (show 0<=a0 by omega)
   have hn:n<=64:=by omega
   have d0:decide ((n:Int) < 0)=false:=decide_eq_false (by omega)
   have d1:decide ((64:Int) < (n:Int))=false:=decide_eq_false (by omega)
   have d1':decide (64 < n)=false:=decide_eq_false (by omega)
   clear hr w0
   go_wp2_with fail
   refine (newQ_any n hn _ (HK.out.below K2.out)).mono ?_
   rintro e w3 ⟨R,F,rfl,g1,g2,g3⟩
   have N3:=Lib.hid (show QuX w w3 _ (⟨n,0,[]⟩:Qu) noX from QuX.new g1 g2 g3 K2.out)
   clear g1 g2 g3
   obtain⟨m,hm⟩:∃ m,m=w3.heap.size:=⟨_,rfl⟩
   obtain⟨u3,hu⟩:∃ u,u=w3.alloc (.cells #[.int .i64 (n:Nat),.int .i64 0,.slice none 0 0] 32):=⟨_,rfl⟩
   have NS:=Lib.hid (show QuX w u3 (.pointer (some ⟨R,0,none⟩)) (⟨n,0,[]⟩:Qu) (fun k=>noX k\/k=m) by rw[hu,hm];exact N3.out.addB _ _)
   have RS:=Lib.hid (show RQ u3 m (⟨n,0,[]⟩:Qu) noX from ⟨none,0,by rw[hu,hm];exact Blk.new _ _ _,ItsAt.nil _ _,fun h=>h,fun k h=>h.elim,fun _=>rfl⟩)
   have hmW:w.heap.size<=m:=by rw[hm];exact N3.out.nb.size
   have HU:=Lib.hid hu
   have HM:=Lib.hid hm
   clear hu hm N3
   go_wp2
   rw[<- HU.out,<- HM.out]
   generalize Value.pointer (some ⟨R,0,none⟩)=vq at *
   go_loopw [54] (fun ix wr=>∃ (k:Nat) (q:Qu) (P:Nat->Prop),k<=l1.length/\ix = .int .i64 k/\QuX w wr vq q (fun k=>P k\/k=m)/\RQ wr m q P/\q.last<=k/\q.room<=64) (fun ix _=>l1.length - (intOf ix).toNat)
   case atStart=>exact⟨0,_,_,Nat.zero_le _,rfl,NS.out,RS.out,Nat.le_refl _,hn⟩
   case round =>
    obtain⟨k,q,P,hk,rfl,hN,hR,hql,hqr⟩:=hrel
    have N:=Lib.hid hN
    have RQ0:=Lib.hid hR
    clear hN hR NS RS HU HM
    by_cases hlt:k < l1.length
    ·have hlt':decide ((k:Int) < (l1.length:Int))=true:=decide_eq_true (by omega)
     obtain⟨⟨ak,an,⟨Kf,If,Xf,Rf,Bf,Ef,Sf,Df,Vf,Af⟩,lf⟩,hx⟩:∃ x,l1.getD k dQ=x:=⟨_,rfl⟩
     obtain⟨bf,of,rfl,-⟩:=HT.out.hcells (by omega)
     obtain⟨pf,qf,hcl⟩:=HT.out.at hlt hx
     obtain⟨⟨v0,v1,v2,v3,v4,v5,v6,v7,v8,v9,v10,v11,v12⟩,hWd,hb,hpn⟩:=hcl wr N.out.nb
     obtain⟨Qa,hQ⟩:∃ Q,Q=wr.heap.size:=⟨_,rfl⟩
     obtain⟨u1,hu⟩:∃ u,u=wr.alloc (.cells #[.int .i64 ak,.int .i64 an,.int .i64 Kf,.int .u32 If,.bool Xf,.bool Rf,.bool Bf,.bool Ef,.bool Sf,.int .u8 Df,.int .u8 Vf,.int .u32 Af,.slice pf lf.length qf] 38):=⟨_,rfl⟩
     have N1:=Lib.hid (show QuX w u1 vq q (fun k=>(P k\/k=m)\/k=Qa) by rw[hu,hQ];exact N.out.addB _ _)
     have R1:=Lib.hid (show RQ u1 m q P by rw[hu];exact RQ0.out.nb (Nb.rfl.al _))
     have BA:=Lib.hid (show Blk u1 Qa #[.int .i64 ak,.int .i64 an,.int .i64 Kf,.int .u32 If,.bool Xf,.bool Rf,.bool Bf,.bool Ef,.bool Sf,.int .u8 Df,.int .u8 Vf,.int .u32 Af,.slice pf lf.length qf] 38 by rw[hu,hQ];exact Blk.new _ _ _)
     have DA:=Lib.hid (show Bs u1 pf qf lf by rw[hu];exact hb.below (Nb.rfl.al _))
     have HWD:=Lib.hid hWd.f
     have HPN:=Lib.hid hpn
     have HU:=Lib.hid hu
     have HQ:=Lib.hid hQ
     have HCL:=Lib.hid (fun w' (h:Nb w w')=>(hcl w' h).2.2.1)
     have hma:m < Qa:=by
      have h:=RQ0.out
      obtain⟨_,_,hb,_⟩:=h
      rw[hQ]
      exact hb.lt
     have HOK:=Lib.hid N.out.ok
     clear hcl hx hu hQ hb hWd hpn N RQ0
     by_cases k1:ak=1
     ·subst k1
      obtain⟨⟨nx,⟨Kx,Ix,Xx,Rx,Bx,Ex,Sx,Dx,Vx,Ax⟩,lx⟩,hx⟩:∃ x,q.head=x:=⟨_,rfl⟩
      have hpt:=N1.out.take (HK.out.below N1.out.nb)
      rw[hx] at hpt
      have hdt:=fun w' (h:RQ w' m q P)=>reftakeQ_any m q P w' h
      rw[hx] at hdt
      simp only[itV,itA] at hpt hdt
      generalize q.headE=er at hpt hdt
      have HPT:=Lib.hid hpt
      have HDT:=Lib.hid hdt
      clear hpt hdt hx
      go_wp2_with fail
      rw[<- HU.out,<- HQ.out]
      refine HPT.out.mono ?_
      rintro e w2 ⟨ay,cy,Py,Gy,rfl,dy,gk,gX,gP,hn⟩
      obtain⟨Qy,hQ⟩:∃ Q,Q=w2.heap.size:=⟨_,rfl⟩
      obtain⟨u2,hu⟩:∃ u,u=w2.alloc (.cells #[.int .i64 nx,.int .i64 Kx,.int .u32 Ix,.bool Xx,.bool Rx,.bool Bx,.bool Ex,.bool Sx,.int .u8 Dx,.int .u8 Vx,.int .u32 Ax,.slice ay lx.length cy] 40):=⟨_,rfl⟩
      have N2:=Lib.hid (show QuX w u2 vq q.take (fun k=>P k\/k=m) by rw[hu];exact (hn.addB _ _).less (fun k hk => .inl (.inl (.inl hk))))
      have R2':=Lib.hid (show RQ u2 m q P by rw[hu];exact (R1.out.keep gk (gX m (.inl (.inr rfl))) (fun k hk=>gX k (.inl (.inl hk)))).nb (Nb.rfl.al _))
      have BY:=Lib.hid (show Blk u2 Qy #[.int .i64 nx,.int .i64 Kx,.int .u32 Ix,.bool Xx,.bool Rx,.bool Bx,.bool Ex,.bool Sx,.int .u8 Dx,.int .u8 Vx,.int .u32 Ax,.slice ay lx.length cy] 40 by rw[hu,hQ];exact Blk.new _ _ _)
      have DY:=Lib.hid (show DatP u2 ay cy lx Py by rw[hu];exact dy.nb (Nb.rfl.al _))
      have hmQ:m < Qy:=by
       have h:=R1.out
       obtain⟨_,_,hb,_⟩:=h
       have h1:=hb.lt
       have h2:=gk.size
       omega
      have HPY:=Lib.hid (show ∀ k,Py k->¬k=m from fun k hk e=>(gP k hk).2 (.inl (.inr e)))
      have HU:=Lib.hid hu
      have HQ:=Lib.hid hQ
      clear hu hQ hn gk gX gP dy HPT N1 R1
      have hdt:=HDT.out _ R2'.out
      have HDU:=Lib.hid hdt
      clear hdt HDT
      go_wp2_with fail
      rw[<- HU.out,<- HQ.out]
      refine HDU.out.mono ?_
      rintro e w3 ⟨az,cz,rfl,dz,tR⟩
      obtain⟨P',hr',hk',hn'⟩:=N2.out.doc hmW tR
      obtain⟨Qz,hQ⟩:∃ Q,Q=w3.heap.size:=⟨_,rfl⟩
      obtain⟨wS,hu⟩:∃ u,u=w3.alloc (.cells #[.int .i64 nx,.int .i64 Kx,.int .u32 Ix,.bool Xx,.bool Rx,.bool Bx,.bool Ex,.bool Sx,.int .u8 Dx,.int .u8 Vx,.int .u32 Ax,.slice az lx.length cz] 43):=⟨_,rfl⟩
      have N3:=Lib.hid (show QuX w wS vq q.take (fun k=>P' k\/k=m) by rw[hu];exact hn'.keep (Nb.rfl.al _))
      have R3:=Lib.hid (show RQ wS m q.take P' by rw[hu];exact hr'.nb (Nb.rfl.al _))
      have by3:=BY.out.keep hk' (show ¬Qy=m by omega)
      have BY3:=Lib.hid (show Blk wS Qy #[.int .i64 nx,.int .i64 Kx,.int .u32 Ix,.bool Xx,.bool Rx,.bool Bx,.bool Ex,.bool Sx,.int .u8 Dx,.int .u8 Vx,.int .u32 Ax,.slice ay lx.length cy] 40 by rw[hu];exact by3.nb (Nb.rfl.al _))
      have BZ:=Lib.hid (show Blk wS Qz #[.int .i64 nx,.int .i64 Kx,.int .u32 Ix,.bool Xx,.bool Rx,.bool Bx,.bool Ex,.bool Sx,.int .u8 Dx,.int .u8 Vx,.int .u32 Ax,.slice az lx.length cz] 43 by rw[hu,hQ];exact Blk.new _ _ _)
      have dy3:=DY.out.keep hk' HPY.out
      have HSM:=Lib.hid (show Calls Tryd.prog 14 #[.agg #[.int .i64 nx,.int .i64 Kx,.int .u32 Ix,.bool Xx,.bool Rx,.bool Bx,.bool Ex,.bool Sx,.int .u8 Dx,.int .u8 Vx,.int .u32 Ax,.slice ay lx.length cy],.agg #[.int .i64 nx,.int .i64 Kx,.int .u32 Ix,.bool Xx,.bool Rx,.bool Bx,.bool Ex,.bool Sx,.int .u8 Dx,.int .u8 Vx,.int .u32 Ax,.slice az lx.length cz]] wS fun e w'=>e = .returned (.bool true)/\Nb wS w' from by
       have h:=same14_any ⟨nx,⟨Kx,Ix,Xx,Rx,Bx,Ex,Sx,Dx,Vx,Ax⟩,lx⟩ ay az cy cz wS (by rw[hu];exact dy3.1.below (Nb.rfl.al _)) (by rw[hu];exact dz.1.below (Nb.rfl.al _))
       exact h)
      obtain⟨t0,t1,t2,t3,t4,t5,t6,t7,t8,t9,t10,t11⟩:=by3.c12
      have hy3:=by3.lt
      have HU:=Lib.hid hu
      have HQ:=Lib.hid hQ
      clear hu hQ tR hr' hk' hn' by3 dy3 dz HDU N2 R2' BY DY HPY
      go_wp2_with fail
      rw[<- HU.out]
      refine HSM.out.mono ?_
      rintro e wT ⟨rfl,n⟩
      have NT:=Lib.hid (N3.out.keep n)
      have RR:=Lib.hid (R3.out.nb n)
      have QL:=Lib.hid (show (q.take).last<=k+1 by show q.last<=k+1;omega)
      have QR:=Lib.hid (show (q.take).room<=64 from by show q.room<=64;omega)
      clear n N3 R3 HSM BY3 BZ HU HQ t0 t1 t2 t3 t4 t5 t6 t7 t8 t9 t10 t11
      obtain⟨q',hq'⟩:∃ q',q.take=q':=⟨_,rfl⟩
      rw[hq'] at NT RR QL QR
      clear hq'
      obtain⟨aM,cM,hbM,hiM,hmM,hlM⟩:=RR.out
      have R2:=Lib.hid (fun w' (n:Nb wT w')=>by
       have h:=(hbM.nb n).cell 2
       simp only[List.getElem?_toArray,List.getElem?_cons_zero,List.getElem?_cons_succ] at h
       exact h)
      have IM:=Lib.hid hiM
      have hok:=NT.out.ok
      have hlq:q'.its.length<=64:=Nat.le_trans hok.1.room hok.2.1
      have hml:=hbM.lt
      have DD:Hid (Nb wT wT.drew):=Lib.hid (Nb.drewN wT 1)
      have r2:=R2.out _ DD.out
      clear hbM hiM hmM hlM hok
      go_wp2_with fail
      go_region_held3 (fun w'=>w'.cell? ⟨m,2,none⟩=some (.slice aM q'.its.length cM)) (first | go_keep | exact R2.out _ DD.out) (first
       | (go_at_call 21
          refine (NT.out.keep DD.out).len.mono ?_
          rintro e wA ⟨rfl,n⟩
          have DD:=Lib.hid (DD.out.tr n)
          clear n)
       | (go_at_call 24
          refine ((NT.out.keep DD.out).all (HK.out.below (NT.out.keep DD.out).nb)).mono ?_
          rintro e wB ⟨aB,cB,PB,rfl,hit,hPB,n,_⟩
          have DD:=Lib.hid (DD.out.tr n)
          have IB:=Lib.hid (items_any aB cB _ PB wB hit (by omega) (fun k hk=>(hPB k hk).2))
          clear n hit hPB)
       | (go_at_call 23
          refine IB.out.mono ?_
          rintro e wC ⟨v6,L6,rfl,o6,r6,m6,f6,n⟩
          have DD:=Lib.hid (DD.out.tr n)
          obtain⟨a6,c6,rfl,i6⟩:=o6.its (r6.up (Y:=fun _=>True) (fun _ _=>trivial)) (fun _ _=>trivial)
          rw[m6] at i6
          have l6:L6.length=q'.its.length:=by rw[<- m6,List.length_map]
          rw[l6]
          have I6:=Lib.hid i6
          clear n o6 r6 m6 f6 i6 l6)
       | (go_at_call 22
          refine (sames14_any _ a6 aM c6 cM _ _ wC I6.out (IM.out.nb DD.out)).mono ?_
          rintro e wD ⟨rfl,n⟩
          have DD:=Lib.hid (DD.out.tr n)
          clear n))
      all_goals
       have NE:=Lib.hid (NT.out.keep DD.out)
       have RE:=Lib.hid (RR.out.nb DD.out)
       clear NT RR
       go_wp2
       go_roundw
       case rel=>exact⟨k+1,q',P',by omega,by go_num,NE.out,RE.out,QL.out,QR.out⟩
       case measure=>simp[intOf];omega
     have e1:(ak==1)=false:=by rw[beq_eq_false_iff_ne];exact k1
     by_cases k2:ak=2
     ·subst k2
      clear k1
      have DD:Hid (Nb u1 u1.drew):=Lib.hid (Nb.drewN u1 1)
      have ND:=Lib.hid (N1.out.keep DD.out)
      have RD:=Lib.hid (R1.out.nb DD.out)
      have BD:=Lib.hid (BA.out.nb DD.out)
      have a1':u1.drew.cell? ⟨Qa,1,none⟩=some (.int .i64 an):=BD.out.cell 1
      clear N1 R1 BA
      go_wp2_with fail
      rw[<- HU.out,<- HQ.out]
      go_region_held3 (fun w'=>w'.cell? ⟨Qa,1,none⟩=some (.int .i64 an)) (first | go_keep | exact BD.out.cell 1)
       (first
       | (go_at_call 15
          refine (ND.out.cancel an (HK.out.below ND.out.nb)).mono ?_
          rintro e wC ⟨G,rfl,gk,gX,hn⟩
          have BD:=Lib.hid (BD.out.keep gk (gX Qa (.inr rfl)))
          have RD:=Lib.hid (RD.out.keep gk (gX m (.inl (.inr rfl))) (fun k hk=>gX k (.inl (.inl hk))))
          have ND:=Lib.hid (hn.less (Y:=fun k=>P k\/k=m) (fun k hk => .inl hk))
          clear gk gX hn)
       | (go_at_call 16
          refine (refcancelQ_any m q P an _ RD.out HOK.out.1 HOK.out.2.1).mono ?_
          rintro e wT ⟨rfl,tR⟩
          obtain⟨P',hr',hk',hn'⟩:=ND.out.doc hmW tR
          have NT:=Lib.hid hn'
          have RR:=Lib.hid hr'
          have BD:=Lib.hid (BD.out.keep hk' (show ¬Qa=m by omega))
          clear tR hr' hk' hn'))
      have QL:=Lib.hid (show (q.cancel an).last<=k+1 by show q.last<=k+1;omega)
      have QR:=Lib.hid (show (q.cancel an).room<=64 from by show q.room<=64;omega)
      clear HU HQ a1'
      obtain⟨q',hq'⟩:∃ q',q.cancel an=q':=⟨_,rfl⟩
      rw[hq'] at NT RR QL QR
      clear hq'
      obtain⟨aM,cM,hbM,hiM,hmM,hlM⟩:=RR.out
      have R2:=Lib.hid (fun w' (n:Nb wT w')=>by
       have h:=(hbM.nb n).cell 2
       simp only[List.getElem?_toArray,List.getElem?_cons_zero,List.getElem?_cons_succ] at h
       exact h)
      have IM:=Lib.hid hiM
      have hok:=NT.out.ok
      have hlq:q'.its.length<=64:=Nat.le_trans hok.1.room hok.2.1
      have hml:=hbM.lt
      have DD:Hid (Nb wT wT.drew):=Lib.hid (Nb.drewN wT 1)
      have r2:=R2.out _ DD.out
      clear hbM hiM hmM hlM hok
      go_wp2_with fail
      go_region_held3 (fun w'=>w'.cell? ⟨m,2,none⟩=some (.slice aM q'.its.length cM)) (first | go_keep | exact R2.out _ DD.out) (first
       | (go_at_call 21
          refine (NT.out.keep DD.out).len.mono ?_
          rintro e wA ⟨rfl,n⟩
          have DD:=Lib.hid (DD.out.tr n)
          clear n)
       | (go_at_call 24
          refine ((NT.out.keep DD.out).all (HK.out.below (NT.out.keep DD.out).nb)).mono ?_
          rintro e wB ⟨aB,cB,PB,rfl,hit,hPB,n,_⟩
          have DD:=Lib.hid (DD.out.tr n)
          have IB:=Lib.hid (items_any aB cB _ PB wB hit (by omega) (fun k hk=>(hPB k hk).2))
          clear n hit hPB)
       | (go_at_call 23
          refine IB.out.mono ?_
          rintro e wC ⟨v6,L6,rfl,o6,r6,m6,f6,n⟩
          have DD:=Lib.hid (DD.out.tr n)
          obtain⟨a6,c6,rfl,i6⟩:=o6.its (r6.up (Y:=fun _=>True) (fun _ _=>trivial)) (fun _ _=>trivial)
          rw[m6] at i6
          have l6:L6.length=q'.its.length:=by rw[<- m6,List.length_map]
          rw[l6]
          have I6:=Lib.hid i6
          clear n o6 r6 m6 f6 i6 l6)
       | (go_at_call 22
          refine (sames14_any _ a6 aM c6 cM _ _ wC I6.out (IM.out.nb DD.out)).mono ?_
          rintro e wD ⟨rfl,n⟩
          have DD:=Lib.hid (DD.out.tr n)
          clear n))
      all_goals
       have NE:=Lib.hid (NT.out.keep DD.out)
       have RE:=Lib.hid (RR.out.nb DD.out)
       clear NT RR
       go_wp2
       go_roundw
       case rel=>exact⟨k+1,q',P',by omega,by go_num,NE.out,RE.out,QL.out,QR.out⟩
       case measure=>simp[intOf];omega
     have e2:(ak==2)=false:=by rw[beq_eq_false_iff_ne];exact k2
     by_cases k3:ak=3
     ·subst k3
      clear k1 k2
      obtain⟨⟨nx,⟨Kx,Ix,Xx,Rx,Bx,Ex,Sx,Dx,Vx,Ax⟩,lx⟩,hx⟩:∃ x,q.head=x:=⟨_,rfl⟩
      have hpt:=N1.out.head (HK.out.below N1.out.nb)
      rw[hx] at hpt
      have hdt:=fun w' (h:RQ w' m q P)=>refheadT_any m q P w' h
      rw[hx] at hdt
      simp only[itV,itA] at hpt hdt
      generalize q.headE=er at hpt hdt
      have HPT:=Lib.hid hpt
      have HDT:=Lib.hid hdt
      clear hpt hdt hx
      go_wp2_with fail
      rw[<- HU.out,<- HQ.out]
      refine HPT.out.mono ?_
      rintro e w2 ⟨ay,cy,Py,Gy,rfl,dy,gk,gX,gP,hn⟩
      obtain⟨Qy,hQ⟩:∃ Q,Q=w2.heap.size:=⟨_,rfl⟩
      obtain⟨u2,hu⟩:∃ u,u=w2.alloc (.cells #[.int .i64 nx,.int .i64 Kx,.int .u32 Ix,.bool Xx,.bool Rx,.bool Bx,.bool Ex,.bool Sx,.int .u8 Dx,.int .u8 Vx,.int .u32 Ax,.slice ay lx.length cy] 40):=⟨_,rfl⟩
      have N2:=Lib.hid (show QuX w u2 vq q (fun k=>P k\/k=m) by rw[hu];exact (hn.addB _ _).less (fun k hk => .inl (.inl (.inl hk))))
      have R2':=Lib.hid (show RQ u2 m q P by rw[hu];exact (R1.out.keep gk (gX m (.inl (.inr rfl))) (fun k hk=>gX k (.inl (.inl hk)))).nb (Nb.rfl.al _))
      have BY:=Lib.hid (show Blk u2 Qy #[.int .i64 nx,.int .i64 Kx,.int .u32 Ix,.bool Xx,.bool Rx,.bool Bx,.bool Ex,.bool Sx,.int .u8 Dx,.int .u8 Vx,.int .u32 Ax,.slice ay lx.length cy] 40 by rw[hu,hQ];exact Blk.new _ _ _)
      have DY:=Lib.hid (show DatP u2 ay cy lx Py by rw[hu];exact dy.nb (Nb.rfl.al _))
      have hmQ:m < Qy:=by
       have h:=R1.out
       obtain⟨_,_,hb,_⟩:=h
       have h1:=hb.lt
       have h2:=gk.size
       omega
      have HPY:=Lib.hid (show ∀ k,Py k->¬k=m from fun k hk e=>(gP k hk).2 (.inl (.inr e)))
      have HU:=Lib.hid hu
      have HQ:=Lib.hid hQ
      clear hu hQ hn gk gX gP dy HPT N1 R1
      have hdt:=HDT.out _ R2'.out
      have HDU:=Lib.hid hdt
      clear hdt HDT
      go_wp2_with fail
      rw[<- HU.out,<- HQ.out]
      refine HDU.out.mono ?_
      rintro e w3 ⟨az,cz,rfl,dz,tR⟩
      obtain⟨P',hr',hk',hn'⟩:=N2.out.doc hmW tR
      obtain⟨Qz,hQ⟩:∃ Q,Q=w3.heap.size:=⟨_,rfl⟩
      obtain⟨wS,hu⟩:∃ u,u=w3.alloc (.cells #[.int .i64 nx,.int .i64 Kx,.int .u32 Ix,.bool Xx,.bool Rx,.bool Bx,.bool Ex,.bool Sx,.int .u8 Dx,.int .u8 Vx,.int .u32 Ax,.slice az lx.length cz] 43):=⟨_,rfl⟩
      have N3:=Lib.hid (show QuX w wS vq q (fun k=>P' k\/k=m) by rw[hu];exact hn'.keep (Nb.rfl.al _))
      have R3:=Lib.hid (show RQ wS m q P' by rw[hu];exact hr'.nb (Nb.rfl.al _))
      have by3:=BY.out.keep hk' (show ¬Qy=m by omega)
      have BY3:=Lib.hid (show Blk wS Qy #[.int .i64 nx,.int .i64 Kx,.int .u32 Ix,.bool Xx,.bool Rx,.bool Bx,.bool Ex,.bool Sx,.int .u8 Dx,.int .u8 Vx,.int .u32 Ax,.slice ay lx.length cy] 40 by rw[hu];exact by3.nb (Nb.rfl.al _))
      have BZ:=Lib.hid (show Blk wS Qz #[.int .i64 nx,.int .i64 Kx,.int .u32 Ix,.bool Xx,.bool Rx,.bool Bx,.bool Ex,.bool Sx,.int .u8 Dx,.int .u8 Vx,.int .u32 Ax,.slice az lx.length cz] 43 by rw[hu,hQ];exact Blk.new _ _ _)
      have dy3:=DY.out.keep hk' HPY.out
      have HSM:=Lib.hid (show Calls Tryd.prog 14 #[.agg #[.int .i64 nx,.int .i64 Kx,.int .u32 Ix,.bool Xx,.bool Rx,.bool Bx,.bool Ex,.bool Sx,.int .u8 Dx,.int .u8 Vx,.int .u32 Ax,.slice ay lx.length cy],.agg #[.int .i64 nx,.int .i64 Kx,.int .u32 Ix,.bool Xx,.bool Rx,.bool Bx,.bool Ex,.bool Sx,.int .u8 Dx,.int .u8 Vx,.int .u32 Ax,.slice az lx.length cz]] wS fun e w'=>e = .returned (.bool true)/\Nb wS w' from by
       have h:=same14_any ⟨nx,⟨Kx,Ix,Xx,Rx,Bx,Ex,Sx,Dx,Vx,Ax⟩,lx⟩ ay az cy cz wS (by rw[hu];exact dy3.1.below (Nb.rfl.al _)) (by rw[hu];exact dz.1.below (Nb.rfl.al _))
       exact h)
      obtain⟨t0,t1,t2,t3,t4,t5,t6,t7,t8,t9,t10,t11⟩:=by3.c12
      have hy3:=by3.lt
      have HU:=Lib.hid hu
      have HQ:=Lib.hid hQ
      clear hu hQ tR hr' hk' hn' by3 dy3 dz HDU N2 R2' BY DY HPY
      go_wp2_with fail
      rw[<- HU.out]
      refine HSM.out.mono ?_
      rintro e wT ⟨rfl,n⟩
      have NT:=Lib.hid (N3.out.keep n)
      have RR:=Lib.hid (R3.out.nb n)
      have QL:=Lib.hid (show (q).last<=k+1 by show q.last<=k+1;omega)
      have QR:=Lib.hid (show (q).room<=64 from by show q.room<=64;omega)
      clear n N3 R3 HSM BY3 BZ HU HQ t0 t1 t2 t3 t4 t5 t6 t7 t8 t9 t10 t11
      obtain⟨q',hq'⟩:∃ q',q=q':=⟨_,rfl⟩
      rw[hq'] at NT RR QL QR
      clear hq'
      obtain⟨aM,cM,hbM,hiM,hmM,hlM⟩:=RR.out
      have R2:=Lib.hid (fun w' (n:Nb wT w')=>by
       have h:=(hbM.nb n).cell 2
       simp only[List.getElem?_toArray,List.getElem?_cons_zero,List.getElem?_cons_succ] at h
       exact h)
      have IM:=Lib.hid hiM
      have hok:=NT.out.ok
      have hlq:q'.its.length<=64:=Nat.le_trans hok.1.room hok.2.1
      have hml:=hbM.lt
      have DD:Hid (Nb wT wT.drew):=Lib.hid (Nb.drewN wT 1)
      have r2:=R2.out _ DD.out
      clear hbM hiM hmM hlM hok
      go_wp2_with fail
      go_region_held3 (fun w'=>w'.cell? ⟨m,2,none⟩=some (.slice aM q'.its.length cM)) (first | go_keep | exact R2.out _ DD.out) (first
       | (go_at_call 21
          refine (NT.out.keep DD.out).len.mono ?_
          rintro e wA ⟨rfl,n⟩
          have DD:=Lib.hid (DD.out.tr n)
          clear n)
       | (go_at_call 24
          refine ((NT.out.keep DD.out).all (HK.out.below (NT.out.keep DD.out).nb)).mono ?_
          rintro e wB ⟨aB,cB,PB,rfl,hit,hPB,n,_⟩
          have DD:=Lib.hid (DD.out.tr n)
          have IB:=Lib.hid (items_any aB cB _ PB wB hit (by omega) (fun k hk=>(hPB k hk).2))
          clear n hit hPB)
       | (go_at_call 23
          refine IB.out.mono ?_
          rintro e wC ⟨v6,L6,rfl,o6,r6,m6,f6,n⟩
          have DD:=Lib.hid (DD.out.tr n)
          obtain⟨a6,c6,rfl,i6⟩:=o6.its (r6.up (Y:=fun _=>True) (fun _ _=>trivial)) (fun _ _=>trivial)
          rw[m6] at i6
          have l6:L6.length=q'.its.length:=by rw[<- m6,List.length_map]
          rw[l6]
          have I6:=Lib.hid i6
          clear n o6 r6 m6 f6 i6 l6)
       | (go_at_call 22
          refine (sames14_any _ a6 aM c6 cM _ _ wC I6.out (IM.out.nb DD.out)).mono ?_
          rintro e wD ⟨rfl,n⟩
          have DD:=Lib.hid (DD.out.tr n)
          clear n))
      all_goals
       have NE:=Lib.hid (NT.out.keep DD.out)
       have RE:=Lib.hid (RR.out.nb DD.out)
       clear NT RR
       go_wp2
       go_roundw
       case rel=>exact⟨k+1,q',P',by omega,by go_num,NE.out,RE.out,QL.out,QR.out⟩
       case measure=>simp[intOf];omega
     have e3:(ak==3)=false:=by rw[beq_eq_false_iff_ne];exact k3
     clear k1 k2 k3
     have hpp:=N1.out.put ⟨Kf,If,Xf,Rf,Bf,Ef,Sf,Df,Vf,Af⟩ pf qf lf (HK.out.below N1.out.nb) DA.out HPN.out HWD.out (by omega)
     have hdp:=fun w' (h:RQ w' m q P) (g:Nb w w')=>refputQ_any m q P ⟨Kf,If,Xf,Rf,Bf,Ef,Sf,Df,Vf,Af⟩ pf qf lf w' h HOK.out.1 HOK.out.2.1 HOK.out.2.2 (HCL.out w' g) HPN.out HWD.out (by omega)
     have hla:=putN_last q ⟨Kf,If,Xf,Rf,Bf,Ef,Sf,Df,Vf,Af⟩ lf
     have hro:=Qu.put_room q ⟨Kf,If,Xf,Rf,Bf,Ef,Sf,Df,Vf,Af⟩ lf
     obtain⟨q',hq'⟩:∃ q',q.put ⟨Kf,If,Xf,Rf,Bf,Ef,Sf,Df,Vf,Af⟩ lf=q':=⟨_,rfl⟩
     rw[hq'] at hpp hla hro
     simp only[hq'] at hdp
     have QL:=Lib.hid (show q'.last<=k+1 by split at hla<;>omega)
     have QR:=Lib.hid (show q'.room<=64 by omega)
     clear hq' hla hro
     generalize q.putN ⟨Kf,If,Xf,Rf,Bf,Ef,Sf,Df,Vf,Af⟩ lf=pn at hpp hdp
     generalize q.putE ⟨Kf,If,Xf,Rf,Bf,Ef,Sf,Df,Vf,Af⟩ lf=pe at hpp hdp
     simp only[Hd.cs] at hpp hdp
     have HPP:=Lib.hid hpp
     have HDP:=Lib.hid hdp
     clear hpp hdp
     go_wp2_with fail
     rw[<- HU.out,<- HQ.out]
     refine HPP.out.mono ?_
     rintro e w2 ⟨G,rfl,gk,gX,hn⟩
     have N2:=Lib.hid (hn.less (Y:=fun k=>P k\/k=m) (fun k hk => .inl hk))
     have R2':=Lib.hid (R1.out.keep gk (gX m (.inl (.inr rfl))) (fun k hk=>gX k (.inl (.inl hk))))
     have ba:=BA.out.keep gk (gX Qa (.inr rfl))
     obtain⟨t2,t3,t4,t5,t6,t7,t8,t9,t10,t11,t12⟩:=(⟨ba.cell 2,ba.cell 3,ba.cell 4,ba.cell 5,ba.cell 6,ba.cell 7,ba.cell 8,ba.cell 9,ba.cell 10,ba.cell 11,ba.cell 12⟩:w2.cell? ⟨Qa,2,none⟩=some (.int .i64 Kf)/\w2.cell? ⟨Qa,3,none⟩=some (.int .u32 If)/\w2.cell? ⟨Qa,4,none⟩=some (.bool Xf)/\w2.cell? ⟨Qa,5,none⟩=some (.bool Rf)/\w2.cell? ⟨Qa,6,none⟩=some (.bool Bf)/\w2.cell? ⟨Qa,7,none⟩=some (.bool Ef)/\w2.cell? ⟨Qa,8,none⟩=some (.bool Sf)/\w2.cell? ⟨Qa,9,none⟩=some (.int .u8 Df)/\w2.cell? ⟨Qa,10,none⟩=some (.int .u8 Vf)/\w2.cell? ⟨Qa,11,none⟩=some (.int .u32 Af)/\w2.cell? ⟨Qa,12,none⟩=some (.slice pf lf.length qf))
     clear gk gX hn ba HPP N1 R1 BA DA HU HQ
     go_wp2_with fail
     refine (HDP.out _ R2'.out N2.out.nb).mono ?_
     rintro e wT ⟨rfl,tR⟩
     obtain⟨P',hr',hk',hn'⟩:=N2.out.doc hmW tR
     have NT:=Lib.hid hn'
     have RR:=Lib.hid hr'
     clear tR hr' hk' hn' HDP N2 R2' t2 t3 t4 t5 t6 t7 t8 t9 t10 t11 t12
     obtain⟨aM,cM,hbM,hiM,hmM,hlM⟩:=RR.out
     have R2:=Lib.hid (fun w' (n:Nb wT w')=>by
      have h:=(hbM.nb n).cell 2
      simp only[List.getElem?_toArray,List.getElem?_cons_zero,List.getElem?_cons_succ] at h
      exact h)
     have IM:=Lib.hid hiM
     have hok:=NT.out.ok
     have hlq:q'.its.length<=64:=Nat.le_trans hok.1.room hok.2.1
     have hml:=hbM.lt
     have DD:Hid (Nb wT wT.drew):=Lib.hid (Nb.drewN wT 1)
     have r2:=R2.out _ DD.out
     clear hbM hiM hmM hlM hok
     go_wp2_with fail
     go_region_held3 (fun w'=>w'.cell? ⟨m,2,none⟩=some (.slice aM q'.its.length cM)) (first | go_keep | exact R2.out _ DD.out) (first
      | (go_at_call 21
         refine (NT.out.keep DD.out).len.mono ?_
         rintro e wA ⟨rfl,n⟩
         have DD:=Lib.hid (DD.out.tr n)
         clear n)
      | (go_at_call 24
         refine ((NT.out.keep DD.out).all (HK.out.below (NT.out.keep DD.out).nb)).mono ?_
         rintro e wB ⟨aB,cB,PB,rfl,hit,hPB,n,_⟩
         have DD:=Lib.hid (DD.out.tr n)
         have IB:=Lib.hid (items_any aB cB _ PB wB hit (by omega) (fun k hk=>(hPB k hk).2))
         clear n hit hPB)
      | (go_at_call 23
         refine IB.out.mono ?_
         rintro e wC ⟨v6,L6,rfl,o6,r6,m6,f6,n⟩
         have DD:=Lib.hid (DD.out.tr n)
         obtain⟨a6,c6,rfl,i6⟩:=o6.its (r6.up (Y:=fun _=>True) (fun _ _=>trivial)) (fun _ _=>trivial)
         rw[m6] at i6
         have l6:L6.length=q'.its.length:=by rw[<- m6,List.length_map]
         rw[l6]
         have I6:=Lib.hid i6
         clear n o6 r6 m6 f6 i6 l6)
      | (go_at_call 22
         refine (sames14_any _ a6 aM c6 cM _ _ wC I6.out (IM.out.nb DD.out)).mono ?_
         rintro e wD ⟨rfl,n⟩
         have DD:=Lib.hid (DD.out.tr n)
         clear n))
     all_goals
      have NE:=Lib.hid (NT.out.keep DD.out)
      have RE:=Lib.hid (RR.out.nb DD.out)
      clear NT RR
      go_wp2
      go_roundw
      case rel=>exact⟨k+1,q',P',by omega,by go_num,NE.out,RE.out,QL.out,QR.out⟩
      case measure=>simp[intOf];omega
    ·have hlt':decide ((k:Int) < (l1.length:Int))=false:=decide_eq_false (by omega)
     go_wp2
     go_ret
     exact⟨rfl,N.out.nb⟩
theorem door_met (os:Os) (args:Array Value):laidMetH Tryd.prog Rows.queueActsRow.laid ((World.doorLaid Tryd.prog 24 os).forCall (fun _ _=>0) ⟨#[],args,[]⟩).memory :=
 laidMetH_of_parts3 (fuel:=8) (laidMet_of_run' 8 (by kernel_rfl) (by kernel_rfl)) (by kernel_rfl) (by kernel_rfl)
theorem lifted (os:Os) (started:os.Started) (H:Type) (enc:TypeId × Value->H) :
    ReturnsInHanded {} Tryd.checked os 3 .any (fun w args=>(Rows.queueActsSpec.pre enc Tryd.prog Tryd.f3 [] false w args/\laidMetH Tryd.prog Rows.queueActsRow.laid w)/\sizedMet enc Tryd.prog Tryd.f3 (OpenSpec.ofChange Rows.queueActsSpec) false w args)
     (Rows.queueActsSpec.post enc Tryd.prog Tryd.f3 false true false false):=by
 refine returnsInHanded_of_change_and (C:=Tryd.checked) (X:=fun w _=>laidMetH Tryd.prog Rows.queueActsRow.laid w) (fun _ _ _ hh h=>h.of_heap hh) own started (by kernel_rfl) Tryd.func3
  (ChangeSpec.witness_shaped (enc:=enc) (C:=Tryd.checked) (os:=os) (X:=fun w _=>laidMetH Tryd.prog Rows.queueActsRow.laid w) false (World.doorLaid Tryd.prog 24 os) #[.int .i64 0,.slice none 0 0] 8 rfl (World.shaped_of_RefB (by kernel_rfl) (by kernel_rfl)) (by kernel_rfl) (by kernel_rfl) (by kernel_rfl) (door_met os _)) ?_
 intro W base args ds gs before hval0 hW _ hR hL _
 have hval:∀ (j:Nat) t v,Tryd.f3.params[j]? = some t->args[j]? = some v->Value.okWide Tryd.prog W .any base t v:=hval0
 have hW':=hW
 obtain⟨p,q,hA0,hV,rfl,hfz,hnd⟩:=hW
 have hA:DataW.TrodAll enc Tryd.prog W 0 (fun _=>true) true Tryd.f3.params.toList args.toList ds p:=hA0
 rw[Tryd.params3] at hA hval
 obtain⟨v0,vs0,d0,ds0,p0,q0,hargs,rfl,rfl,h0,r0⟩:=trodAll_cons hA
 obtain⟨v1,vs1,d1,ds1,p1,q1,rfl,rfl,rfl,h1,r1⟩:=trodAll_cons r0
 obtain⟨rfl,rfl,rfl⟩:=trodAll_nil r1
 obtain rfl:args=#[v0,v1]:=by cases args;simp_all
 obtain⟨rfl,rfl⟩:=trodVars_none hV
 have k0:=h0
 have lt0:∀ x∈p0,x.block < W.heap.size:=by obtain⟨m,hm⟩:=k0;exact DataW.trod_lt m _ _ _ hm
 have k1:=h1
 have lt1:∀ x∈p1,x.block < W.heap.size:=by obtain⟨m,hm⟩:=k1;exact DataW.trod_lt m _ _ _ hm
 clear hA0
 obtain⟨a0,rfl,rfl,rfl,w0⟩:=open_int Tryd.underlying3 (hval 0 3 v0 rfl rfl) h0
 obtain⟨a1,lc1,cap1,rfl⟩:=okWide_slice Tryd.underlying22 (hval 1 22 v1 rfl rfl)
 obtain⟨fu1,hf1⟩:=h1
 have hc1:DataW.trod enc Tryd.prog W 0 (fun _=>true) true fu1 22 [.slice a1 lc1 cap1]=some (d1,p1):=hf1
 obtain⟨b1,cb1,l1,e1,hb1,n1⟩:=actsq_open hc1
 simp only[Value.slice.injEq] at e1
 obtain⟨rfl,rfl,rfl⟩:=e1
 refine (walk W (longer_of hL) a0 w0 a1 cap1 l1 hb1 n1).mono fun e W' ⟨he,bel⟩ => ?_
 subst he
 exact⟨_,rfl,_,_,_,[],_,[],hW',trodAll_mk1 (shut_bool Tryd.underlying4 _),(trodAll_cons_mk (Below.trod laidOut (by kernel_rfl) (of_decide_eq_true (by kernel_rfl)) k0 bel lt0) (trodAll_cons_mk (Below.trod laidOut (by kernel_rfl) (of_decide_eq_true (by kernel_rfl)) k1 bel lt1) trodAll_mk0)),rfl,bel.frame _,fun h=>by cases h⟩
theorem over:Rows.queueActsRow.holds Tryd.pinned (OpenSpec.ofChange Rows.queueActsSpec) :=
 OpenClaim.holds_of_wide 3 Tryd.f3 rfl rfl rfl rfl rfl rfl rfl ⟨rfl,rfl,rfl,rfl,rfl⟩ rfl rfl rfl rfl rfl (by kernel_rfl) Tryd.func3 (by kernel_rfl)
  (of_decide_eq_true (by kernel_rfl)) (by unfold Func.isWrapper;first | (rw[if_pos (by decide +kernel)];kernel_rfl) | (rw[if_neg (by decide +kernel)];exact⟨rfl,rfl⟩))
  (fun os started H enc _=>lifted os started H enc)
theorem plain (f : FuncId) (fn : Func) (hf : Tryd.pinned.checked.prog.funcNamed "omnibus/omnibuslaw14.QueueActs" = some f) (hfn : Tryd.pinned.checked.prog.funcs[f]? = some fn) :
    true=Tryd.pinned.checked.prog.looks []/\∀ (j:Nat) t,fn.params[j]? = some t->Tryd.pinned.checked.prog.wantsStandIn t=false:=by
 obtain rfl : f = 3 := Option.some.inj ((show Tryd.prog.funcNamed "omnibus/omnibuslaw14.QueueActs" = some 3 by kernel_rfl).symm.trans hf) |>.symm
 obtain rfl:fn=Tryd.f3:=(Option.some.inj (Tryd.func3.symm.trans hfn)).symm
 refine⟨by kernel_rfl,fun j t ht => ?_⟩
 rw[Tryd.params3] at ht
 have hm:t∈[3,22]:=by have:=Array.mem_of_getElem? ht;simp at this ⊢;omega
 have hall:([3,22].all fun u => !Tryd.prog.wantsStandIn u)=true:=by kernel_rfl
 exact (show Tryd.prog.wantsStandIn t=false by simpa using List.all_eq_true.1 hall t hm)
theorem proved:Rows.QueueActsCardSaid :=
 Claim7.holds_tied_plain_at .later [] _ _ _ _ over (fun _ h=>by cases h) (by kernel_rfl) (fun _ h=>by cases h) queueActs_row_tie rfl ⟨rfl,rfl⟩ (by kernel_rfl) rfl plain (by kernel_rfl)
#print axioms proved
end Go.Proofs.YtdedoeeekcfkpaaDoor.queueActs
