/- For every bools and acts the law BusMay answers true and leaves its arguments as they were; the package's tables are tied to the program's text. No conditions. -/
import Derived.Test.YtkjjfnmeogpdbaaGreatDoorRows
import Derived.Test.YtkjjfnmeogpdbaaGreatDoorCards
import Derived.Test.YtkjjfnmeogpdbaaGreatDoorTie
import Derived.Test.YtkjjfnmeogpdbaaGreatDoorGy
import Derived.Test.YtkjjfnmeogpdbaaGreatDoorBsB
import Derived.Test.YtkjjfnmeogpdbaaGreatDoorBsX
import Derived.Test.YtkjjfnmeogpdbaaGreatDoorGrtB
import Derived.Test.YtkjjfnmeogpdbaaGreatDoorGe
import Derived.Test.YtkjjfnmeogpdbaaGreatDoorGu
import Derived.Test.YtkjjfnmeogpdbaaGreatDoorGj
import Derived.Test.YtkjjfnmeogpdbaaGreatDoorGa
import Derived.Test.YtkjjfnmeogpdbaaGreatDoorFrmE
import Derived.WalkKit
import Derived.ProofKit
import Derived.OpenShut
import Derived.ShutString
import Derived.ChangeOld
import Derived.Below
import Derived.Carry
import Derived.Lib.SmallJoins
import Derived.Deep.RegionWith
import Derived.Deep.RegionHeld3
import Derived.LaidMore
import Derived.LaidLaws
import Derived.Stop.Joined
import Derived.SevenTiedAt
set_option maxHeartbeats 12000000
set_option maxRecDepth 100000
namespace Go.Proofs.YtkjjfnmeogpdbaaGreatDoor.busMay
open Go.ChangeShapes Go.WideShapes Go.ChangeAt Go.RowKit Go.Joins
set_option linter.unusedVariables false
set_option linter.unusedSimpArgs false
theorem own:ownKnob Tryz.prog.godebug=none:=by kernel_rfl
theorem laidOut:laidOutB Tryz.prog=true:=by kernel_rfl
theorem s6b{w:World}{R:Nat}{u0 u1 u2 u3 u4 u5:Value}{t:TypeId}(h:Blk w R #[u0,u1,u2,u3,u4,u5] t):w.cell? ⟨R,0,none⟩=some u0/\w.cell? ⟨R,1,none⟩=some u1/\w.cell? ⟨R,2,none⟩=some u2/\w.cell? ⟨R,3,none⟩=some u3/\w.cell? ⟨R,4,none⟩=some u4/\w.cell? ⟨R,5,none⟩=some u5:=⟨h.cell 0,h.cell 1,h.cell 2,h.cell 3,h.cell 4,h.cell 5⟩
theorem maskB(t m:Nat)(ht:t < 4294967296)(hm:m<=6):bits BinOp.and IntKind.u32 (t:Int) ((2^m - 1)%4294967296)=((t%2^m:Nat):Int):=by
 have key:∀c:Nat,2^m=c->1<=c->c<=64->bits BinOp.and IntKind.u32 (t:Int) ((2^m - 1)%4294967296)=((t%2^m:Nat):Int):=fun c hc h1 h2=>by
  have e:((2:Int)^m - 1)%4294967296=((2^m - 1:Nat):Int):=by
   have:((2:Int)^m)=((2^m:Nat):Int):=by simp
   rw[this,hc]
   omega
  rw[e,zg3 _ _ ht (by omega),Nat.and_two_pow_sub_one_eq_mod]
 rcases(by omega:m=0\/m=1\/m=2\/m=3\/m=4\/m=5\/m=6)with rfl | rfl | rfl | rfl | rfl | rfl | rfl<;>exact key _ rfl (by decide) (by decide)
theorem blk15{w:World}{R:Nat}{u0 u1 u2 u3 u4 u5 u6 u7 u8 u9 u10 u11 u12 u13 u14:Value}{t:TypeId}(h:Blk w R #[u0,u1,u2,u3,u4,u5,u6,u7,u8,u9,u10,u11,u12,u13,u14] t):w.cell? ⟨R,0,none⟩=some u0/\w.cell? ⟨R,1,none⟩=some u1/\w.cell? ⟨R,2,none⟩=some u2/\w.cell? ⟨R,3,none⟩=some u3/\w.cell? ⟨R,4,none⟩=some u4/\w.cell? ⟨R,5,none⟩=some u5/\w.cell? ⟨R,6,none⟩=some u6/\w.cell? ⟨R,7,none⟩=some u7/\w.cell? ⟨R,8,none⟩=some u8/\w.cell? ⟨R,9,none⟩=some u9/\w.cell? ⟨R,10,none⟩=some u10/\w.cell? ⟨R,11,none⟩=some u11/\w.cell? ⟨R,12,none⟩=some u12/\w.cell? ⟨R,13,none⟩=some u13/\w.cell? ⟨R,14,none⟩=some u14 :=
 ⟨h.cell 0,h.cell 1,h.cell 2,h.cell 3,h.cell 4,h.cell 5,h.cell 6,h.cell 7,h.cell 8,h.cell 9,h.cell 10,h.cell 11,h.cell 12,h.cell 13,h.cell 14⟩
theorem walk (w:World) (hK:z0F w) (a0:Option Addr) (cap0:Nat) (l0:List Bool) (h0:Bls w a0 cap0 l0) (n0:a0=none->cap0=0) (a1:Option Addr) (cap1:Nat) (l1:List ActB) (h1:ActsB w a1 cap1 l1) (n1:a1=none->cap1=0) :
    Calls Tryz.prog 6 #[.slice a0 l0.length cap0,.slice a1 l1.length cap1] w fun e w'=>e = .returned (.bool true)/\Nb w w':=by
 have hL0:=h0.len
 have hL1:=h1.len
 have HK:=zH hK
 have HB:=zH (fun w' (m:Nb w w')=>HK.out.below m)
 have HKN:=zH h0
 have HAC:=zH h1
 clear hK h0 h1 n0 n1
 go_enter Tryz.func6,Tryz.ntmps6
 go_wp2_with fail
 refine(alive13_any _ (HB.out _ Nb.rfl)).mono ?_
 rintro e w1 ⟨rfl,n1⟩
 have N1:=zH n1
 clear n1
 go_wp2_with fail
 refine(great13_any _ _ _ _ _ _ _ (HKN.out.below N1.out) (HAC.out.below N1.out)).mono ?_
 rintro e w2 ⟨r,rfl,hr,n2⟩
 have N2:=zH (N1.out.tr n2)
 clear n2
 cases r with
 | true =>
   clear hr
   go_wp2
   go_ret
   exact⟨rfl,N2.out⟩
 | false =>
   obtain⟨h30,h6⟩:=hr rfl
   clear hr
   by_cases hkl:l0.length < 1\/16 < l0.length
   ·have HNB:=zH (newB_bad a0 cap0 l0 w2 (HKN.out.below N2.out) hkl)
    clear hkl h6 h30
    go_wp2_with fail
    refine HNB.out.mono ?_
    rintro e w3 ⟨rfl,n3⟩
    have N3:=zH (N2.out.tr n3)
    clear n3
    go_wp2
    go_ret
    exact⟨rfl,N3.out⟩
   have hk1:1<=l0.length:=by omega
   have hk6:l0.length<=6:=by omega
   have HNW:=zH (newB_any a0 cap0 l0 w2 (HKN.out.below N2.out) (HB.out _ N2.out) hk1 (by omega))
   clear hkl h6
   go_wp2_with fail
   refine HNW.out.mono ?_
   rintro e w3 ⟨RB,F,rfl,g1,g2,g3⟩
   have HN3:=zH (show BusN w w3 (.pointer (some ⟨RB,0,none⟩)) (l0.map Nd.new) [] from⟨F,g1,fun k hk=>Nat.le_trans N2.out.size (g2 k hk),N2.out.tr g3⟩)
   obtain⟨o1,o2⟩:=new_all l0
   have O3:=zH o1
   have X3:=zH o2
   generalize Value.pointer (some ⟨RB,0,none⟩)=vb at *
   clear g1 g2 g3 HNW o1 o2
   go_wp2
   go_loopw [33] (fun ix wr=>∃(k:Nat) (ns:List Nd) (line:List Nat),k<=l1.length/\ix = .int .i64 k/\BusN w wr vb ns line/\ns.length=l0.length/\AllOk ns/\AllX (k*255) ns) (fun ix _=>l1.length - (intOf ix).toNat)
   case atStart=>exact⟨0,_,_,Nat.zero_le _,rfl,HN3.out,by rw[List.length_map],O3.out,by rw[Nat.zero_mul];exact X3.out⟩
   case round =>
    obtain⟨k,ns0,line0,hk,rfl,hN,hLN,hO,hX⟩:=hrel
    have N0:=zH hN
    have O0:=zH hO
    have X0:=zH hX
    have LN0:=zH hLN
    clear hN hO hX hLN HN3 O3 X3
    by_cases hlt:k < l1.length
    ·have hlt':decide ((k:Int) < (l1.length:Int))=true:=decide_eq_true (by omega)
     obtain⟨⟨ak,ai,⟨K,I,X,R,B,E,S,D,V,A⟩,l,n,t⟩,hx⟩:∃x,l1.getD k dA=x:=⟨_,rfl⟩
     obtain⟨b,o,rfl,_⟩:=(HAC.out.below N0.out.nb).hcells (by omega)
     obtain⟨pa,pc,⟨v0,v1,v2,v3,v4,v5,v6,v7,v8,v9,v10,v11,v12,v13,v14⟩,hw,hb,hpn⟩:=(HAC.out.below N0.out.nb).at hlt hx
     have hn:=hw.n
     have ht:=hw.t
     simp[Lit.wf,IntKind.min,IntKind.max,IntKind.signed,IntKind.bits]at hn ht
     obtain⟨n,rfl⟩:=Int.eq_ofNat_of_zero_le hn.1
     obtain⟨t,rfl⟩:=Int.eq_ofNat_of_zero_le ht.1
     have hn2:n<=255:=by omega
     have ht2:t < 4294967296:=by omega
     have HWD:=zH hw.f
     have HBS:=zH hb
     have HPN:=zH hpn
     clear hx hw hb hpn hn ht
     obtain⟨AB,hAB⟩:∃AB,AB=wr.heap.size:=⟨_,rfl⟩
     obtain⟨w4,hw4⟩:∃w4,w4=wr.alloc (.cells #[.int .i64 ak,.int .i64 ai,.int .i64 K,.int .u32 I,.bool X,.bool R,.bool B,.bool E,.bool S,.int .u8 D,.int .u8 V,.int .u32 A,.slice pa l.length pc,.int .u8 (n:Nat),.int .u32 (t:Nat)] 39):=⟨_,rfl⟩
     have HX4:=zH (show BusX w w4 vb ns0 line0 (fun k=>k=AB) by rw[hw4,hAB];exact((BusX.of N0.out).add (Nb.rfl.al _) (Y:=fun k=>k=wr.heap.size) (fun k hk=>by subst hk;exact⟨Nat.le_refl _,by rw[World.size_alloc];omega⟩)).less (fun k hk => .inr hk))
     have A4:=zH (show Blk w4 AB #[.int .i64 ak,.int .i64 ai,.int .i64 K,.int .u32 I,.bool X,.bool R,.bool B,.bool E,.bool S,.int .u8 D,.int .u8 V,.int .u32 A,.slice pa l.length pc,.int .u8 (n:Nat),.int .u32 (t:Nat)] 39 by rw[hw4,hAB];exact Blk.new _ _ _)
     have B4:=zH (show Nb wr w4 by rw[hw4];exact Nb.rfl.al _)
     have hld:=HX4.out.loadAny ai ⟨K,I,X,R,B,E,S,D,V,A⟩ pa pc l O0.out (HB.out _ HX4.out.nb) (HBS.out.below B4.out) HPN.out HWD.out
     simp only[Hd.cs]at hld
     have HLD:=zH hld
     have HW4:=zH hw4
     have HAB:=zH hAB
     clear hld hw4
     go_wp2_with fail
     rw[<- HW4.out]
     clear v0 v1 v2 v3 v4 v5 v6 v7 v8 v9 v10 v11 v12 v13 v14
     refine HLD.out.mono ?_
     rintro e w5 ⟨u,G,ms0,rfl,gk,gX,hN5,hl5,ho5,hx5⟩
     have HN5:=zH hN5
     have A5:=zH (A4.out.keep gk (gX AB rfl))
     have L5:=zH (hl5.trans LN0.out)
     have O5:=zH ho5
     have X5:=zH (hx5 _ X0.out)
     clear hN5 hl5 ho5 hx5 gk gX HLD HX4 A4 B4 N0 O0 X0 LN0
     rw[<- hAB]
     obtain⟨v0,v1,v2,v3,v4,v5,v6,v7,v8,v9,v10,v11,v12,v13,v14⟩:=blk15 A5.out
     clear hAB
     go_wp2
     go_loopw [45] (fun ix wr=>∃(i:Nat) (ns:List Nd) (line:List Nat),i<=n/\ix = .int .u8 i/\BusX w wr vb ns line (fun k=>k=AB)/\Blk wr AB #[.int .i64 ak,.int .i64 ai,.int .i64 K,.int .u32 I,.bool X,.bool R,.bool B,.bool E,.bool S,.int .u8 D,.int .u8 V,.int .u32 A,.slice pa l.length pc,.int .u8 (n:Nat),.int .u32 (t:Nat)] 39/\ns.length=l0.length/\AllOk ns/\AllX (k*255+i) ns) (fun ix _=>n - (intOf ix).toNat)
     case atStart=>exact⟨0,_,_,Nat.zero_le _,rfl,HN5.out,A5.out,L5.out,O5.out,X5.out⟩
     case round =>
      obtain⟨i,ns,line,hi,rfl,hN,hA,hLN,hO,hX⟩:=hrel
      have N:=zH hN
      have AA:=zH hA
      have HO:=zH hO
      have HX:=zH hX
      have HLN:=zH hLN
      clear hN hA hO hX hLN HN5 A5 L5 O5 X5 v0 v1 v2 v3 v4 v5 v6 v7 v8 v9 v10 v11 v12 v13 v14
      obtain⟨v0,v1,v2,v3,v4,v5,v6,v7,v8,v9,v10,v11,v12,v13,v14⟩:=blk15 AA.out
      by_cases hlt2:i < n
      ·have hlt2':decide ((i:Int) < (n:Int))=true:=decide_eq_true (by omega)
       by_cases hi0:i=0
       ·have di0:decide ((0:Int) < (i:Int))=false:=decide_eq_false (by omega)
        have di1:decide (0 < i)=false:=decide_eq_false (by omega)
        clear hi0
        have hmk:=maskB t l0.length ht2 hk6
        have htm:t%2^l0.length < 2^l0.length:=Nat.mod_lt _ (Nat.pow_pos (by omega))
        obtain⟨tm,htme⟩:∃tm,tm=t%2^l0.length:=⟨_,rfl⟩
        rw[<- htme]at hmk htm
        have HT:=zH htm
        clear htme htm
        go_wp2_with fail
        have hst:=N.out.step tm HO.out (HX.out.up (by omega)) (HB.out _ N.out.nb) (by rw[HLN.out];exact HT.out)
        rw[evsT_len,HLN.out]at hst
        have HST:=zH hst
        clear hst
        go_wp2_with fail
        refine HST.out.mono ?_
        rintro e wS ⟨a,c,P,G,rfl,hE,gk,gX,hN2⟩
        clear v0 v1 v2 v3 v4 v5 v6 v7 v8 v9 v10 v11 v12 v13 v14
        have hel:(evsT ns tm).length=l0.length:=by rw[evsT_len,HLN.out]
        obtain⟨bE,hbe,_,_⟩:=hE.hcells (by rw[hel];omega)
        subst hbe
        have NS:=zH (hN2.less (Y:=fun k=>k=AB) (fun k hk => .inl hk))
        have AS:=zH (AA.out.keep gk (gX AB rfl))
        have HE:=zH hE
        have HEL:=zH hel
        have OS:=zH (HO.out.next tm)
        have XS:=zH (HX.out.next tm)
        have LS:=zH (show(nextT ns tm).length=l0.length by rw[nextT_len,HLN.out])
        have MA:=zH (fun j (hj:j < l0.length)=>may_at HO.out tm (show j < ns.length by rw[HLN.out];exact hj))
        generalize nextT ns tm=ms at *
        generalize evsT ns tm=es at *
        generalize wireB (line++[busV ns])=line2 at *
        clear hN2 hE hel gk gX HST N AA HO HX HLN
        go_wp2
        go_loopw [75] (fun ix wr=>∃j:Nat,j<=l0.length/\ix = .int .i64 j/\Nb wS wr) (fun ix _=>l0.length - (intOf ix).toNat)
        case atStart=>exact⟨0,Nat.zero_le _,rfl,Nb.rfl⟩
        case round =>
         obtain⟨j,hj,rfl,hNb⟩:=hrel
         have NR:=zH hNb
         clear hNb
         by_cases hlt3:j < l0.length
         ·have hlt3':decide ((j:Int) < (l0.length:Int))=true:=decide_eq_true (by omega)
          obtain⟨⟨yk,ye,⟨yK,yI,yX,yR,yB,yE,yS,yD,yV,yA⟩,yl⟩,hy⟩:∃e,es.getD j z0W=e:=⟨_,rfl⟩
          obtain⟨a',c',⟨x0,x1,x2,x3,x4,x5,x6,x7,x8,x9,x10,x11,x12⟩,bx,_⟩:=(HE.out.nb NR.out).at (by rw[HEL.out];exact hlt3) hy
          obtain⟨_,_,_,bx0,_⟩:=HE.out.at (by rw[HEL.out];exact hlt3) hy
          have BX':=zH bx
          obtain⟨m2,m1,m3⟩:=MA.out j hlt3
          rw[hy]at m1 m2 m3
          simp only at m1 m2 m3
          have okj:=OS.out j (by rw[LS.out];exact hlt3)
          have hss:=fun w' (m:Nb wS w')=>(NS.out.keep m).n.state j OS.out (HB.out _ (NS.out.nb.tr m)) (by rw[LS.out];exact hlt3)
          generalize ms.getD j dN=nd at *
          have HFC:=zH (fun w'=>by
           have q:=z5n nd.fa w'
           rw[show z5c nd.fa=0 by unfold z5c;rw[if_pos okj.fa]]at q
           simp only[Fa.cs]at q
           exact q)
          simp only[stV]at hss
          generalize nd.ph=ph at *
          generalize nd.count=cn at *
          generalize nd.fa.T=fT at *
          generalize nd.fa.R=fR at *
          generalize nd.fa.O=fO at *
          generalize nd.has=hs at *
          have HSS:=zH hss
          clear hss okj hy bx bx0
          go_wp2_with fail
          refine(HSS.out _ (NR.out.al _)).mono ?_
          rintro e wT ⟨rfl,nT⟩
          have MT:=zH ((Nb.rfl.al _).tr nT:Nb wr wT)
          have NT:=zH ((NR.out.al _).tr nT)
          have HY0:=zH ((Blk.new wr #[.int .i64 (yk:Nat),.int .i64 (ye:Nat),.int .i64 yK,.int .u32 yI,.bool yX,.bool yR,.bool yB,.bool yE,.bool yS,.int .u8 yD,.int .u8 yV,.int .u32 yA,.slice a' yl.length c'] 77).nb nT)
          clear nT x0 x1 x2 x3 x4 x5 x6 x7 x8 x9 x10 x11 x12
          go_wp2_with fail
          refine(HFC.out _).mono ?_
          rintro e wU ⟨rfl,nU⟩
          have MU:=zH (((MT.out).al _).tr nU)
          have NU:=zH ((NT.out.al _).tr nU)
          have HSB:=zH ((Blk.new wT #[.int .i64 (ph:Nat),.int .i64 (cn:Nat),.int .i64 fT,.int .i64 fR,.bool fO,.bool hs] 45).nb nU)
          have HY:=zH (HY0.out.nb ((Nb.rfl.al _).tr nU))
          have BX:=BX'
          obtain⟨y0,y1,y2,y3,y4,y5,y6,y7,y8,y9,y10,y11,y12⟩:=(Blk.h13 HY.out).2.1
          obtain⟨s0,_⟩:=s6b HSB.out
          clear nU HY0 HSS HFC
          by_cases hk2:yk=2
          ·have d1k:(((yk:Nat):Int)==1)=false:=by rw[beq_eq_false_iff_ne];omega
           have d2k:(((yk:Nat):Int)==2)=true:=by rw[beq_iff_eq];omega
           obtain⟨q1,q2,q3⟩:=m2 hk2
           have dK:decide (0 < yK)=true:=decide_eq_true q1
           have dph:(((ph:Nat):Int) != 4)=false:=by rw[bne_eq_false_iff_eq];omega
           have HCF:=zH (fun w' (m:Nb wr w')=>by
            have q:=z1g (⟨yK,yI,yX,yR,yB,yE,yS,yD,yV,yA⟩:Hd) a' c' yl w' (BX.out.below m) (HB.out _ (NS.out.nb.tr (NR.out.tr m))).2
            rw[show zP (⟨yK,yI,yX,yR,yB,yE,yS,yD,yV,yA⟩:Hd) yl=0 by simp[zP,q2]]at q
            simp only[Hd.cs]at q
            exact q)
           clear m1 m2 m3 q1 q2 q3 hk2
           go_wp2_with fail
           refine(HCF.out _ MU.out).mono ?_
           rintro e wV ⟨rfl,nV⟩
           have NV:=zH (NU.out.tr nV)
           obtain⟨y0,y1,y2,y3,y4,y5,y6,y7,y8,y9,y10,y11,y12⟩:=(Blk.h13 (HY.out.nb nV)).2.1
           obtain⟨s0,_⟩:=s6b (HSB.out.nb nV)
           clear nV
           go_wp2
           go_roundw
           case rel=>exact⟨j+1,by omega,by go_num,NV.out⟩
           case measure=>simp[intOf];omega
          by_cases hk1:yk=1
          ·have d1k:(((yk:Nat):Int)==1)=true:=by rw[beq_iff_eq];omega
           have d2k:(((yk:Nat):Int)==2)=false:=by rw[beq_eq_false_iff_ne];omega
           obtain⟨q1,q2,q3⟩:=m1 hk1
           have dK:decide (0 < yK)=true:=decide_eq_true q1
           have dph:(((ph:Nat):Int) != 8)=false:=by rw[bne_eq_false_iff_eq];omega
           have HCF:=zH (fun w' (m:Nb wr w')=>by
            have q:=z1g (⟨yK,yI,yX,yR,yB,yE,yS,yD,yV,yA⟩:Hd) a' c' yl w' (BX.out.below m) (HB.out _ (NS.out.nb.tr (NR.out.tr m))).2
            rw[show zP (⟨yK,yI,yX,yR,yB,yE,yS,yD,yV,yA⟩:Hd) yl=0 by simp[zP,q2]]at q
            simp only[Hd.cs]at q
            exact q)
           clear m1 m2 m3 q1 q2 q3 hk1
           go_wp2_with fail
           refine(HCF.out _ MU.out).mono ?_
           rintro e wV ⟨rfl,nV⟩
           have NV:=zH (NU.out.tr nV)
           obtain⟨y0,y1,y2,y3,y4,y5,y6,y7,y8,y9,y10,y11,y12⟩:=(Blk.h13 (HY.out.nb nV)).2.1
           obtain⟨s0,_⟩:=s6b (HSB.out.nb nV)
           clear nV
           go_wp2
           go_roundw
           case rel=>exact⟨j+1,by omega,by go_num,NV.out⟩
           case measure=>simp[intOf];omega
          have d1k:(((yk:Nat):Int)==1)=false:=by rw[beq_eq_false_iff_ne];omega
          have d2k:(((yk:Nat):Int)==2)=false:=by rw[beq_eq_false_iff_ne];omega
          obtain rfl:yK=0:=m3 hk1 hk2
          clear m1 m2 m3 hk1 hk2
          go_wp2
          go_roundw
          case rel=>exact⟨j+1,by omega,by go_num,NU.out⟩
          case measure=>simp[intOf];omega
         ·have hlt3':decide ((j:Int) < (l0.length:Int))=false:=decide_eq_false (by omega)
          obtain rfl:j=l0.length:=by omega
          go_wp2
          go_roundw
          case rel=>exact⟨i+1,ms,_,by omega,by go_num,NS.out.keep NR.out,AS.out.nb NR.out,LS.out,OS.out,XS.out⟩
          case measure=>simp[intOf];omega
       ·have di0:decide ((0:Int) < (i:Int))=true:=decide_eq_true (by omega)
        have di1:decide (0 < i)=true:=decide_eq_true (by omega)
        clear hi0
        go_wp2_with fail
        have hst:=N.out.step 0 HO.out (HX.out.up (by omega)) (HB.out _ N.out.nb) (by rw[HLN.out];exact Nat.pow_pos (by omega))
        rw[evsT_len,HLN.out]at hst
        have HST:=zH hst
        clear hst
        go_wp2_with fail
        refine HST.out.mono ?_
        rintro e wS ⟨a,c,P,G,rfl,hE,gk,gX,hN2⟩
        clear v0 v1 v2 v3 v4 v5 v6 v7 v8 v9 v10 v11 v12 v13 v14
        have hel:(evsT ns 0).length=l0.length:=by rw[evsT_len,HLN.out]
        obtain⟨bE,hbe,_,_⟩:=hE.hcells (by rw[hel];omega)
        subst hbe
        have NS:=zH (hN2.less (Y:=fun k=>k=AB) (fun k hk => .inl hk))
        have AS:=zH (AA.out.keep gk (gX AB rfl))
        have HE:=zH hE
        have HEL:=zH hel
        have OS:=zH (HO.out.next 0)
        have XS:=zH (HX.out.next 0)
        have LS:=zH (show(nextT ns 0).length=l0.length by rw[nextT_len,HLN.out])
        have MA:=zH (fun j (hj:j < l0.length)=>may_at HO.out 0 (show j < ns.length by rw[HLN.out];exact hj))
        generalize nextT ns 0=ms at *
        generalize evsT ns 0=es at *
        generalize wireB (line++[busV ns])=line2 at *
        clear hN2 hE hel gk gX HST N AA HO HX HLN
        go_wp2
        go_loopw [75] (fun ix wr=>∃j:Nat,j<=l0.length/\ix = .int .i64 j/\Nb wS wr) (fun ix _=>l0.length - (intOf ix).toNat)
        case atStart=>exact⟨0,Nat.zero_le _,rfl,Nb.rfl⟩
        case round =>
         obtain⟨j,hj,rfl,hNb⟩:=hrel
         have NR:=zH hNb
         clear hNb
         by_cases hlt3:j < l0.length
         ·have hlt3':decide ((j:Int) < (l0.length:Int))=true:=decide_eq_true (by omega)
          obtain⟨⟨yk,ye,⟨yK,yI,yX,yR,yB,yE,yS,yD,yV,yA⟩,yl⟩,hy⟩:∃e,es.getD j z0W=e:=⟨_,rfl⟩
          obtain⟨a',c',⟨x0,x1,x2,x3,x4,x5,x6,x7,x8,x9,x10,x11,x12⟩,bx,_⟩:=(HE.out.nb NR.out).at (by rw[HEL.out];exact hlt3) hy
          obtain⟨_,_,_,bx0,_⟩:=HE.out.at (by rw[HEL.out];exact hlt3) hy
          have BX':=zH bx
          obtain⟨m2,m1,m3⟩:=MA.out j hlt3
          rw[hy]at m1 m2 m3
          simp only at m1 m2 m3
          have okj:=OS.out j (by rw[LS.out];exact hlt3)
          have hss:=fun w' (m:Nb wS w')=>(NS.out.keep m).n.state j OS.out (HB.out _ (NS.out.nb.tr m)) (by rw[LS.out];exact hlt3)
          generalize ms.getD j dN=nd at *
          have HFC:=zH (fun w'=>by
           have q:=z5n nd.fa w'
           rw[show z5c nd.fa=0 by unfold z5c;rw[if_pos okj.fa]]at q
           simp only[Fa.cs]at q
           exact q)
          simp only[stV]at hss
          generalize nd.ph=ph at *
          generalize nd.count=cn at *
          generalize nd.fa.T=fT at *
          generalize nd.fa.R=fR at *
          generalize nd.fa.O=fO at *
          generalize nd.has=hs at *
          have HSS:=zH hss
          clear hss okj hy bx bx0
          go_wp2_with fail
          refine(HSS.out _ (NR.out.al _)).mono ?_
          rintro e wT ⟨rfl,nT⟩
          have MT:=zH ((Nb.rfl.al _).tr nT:Nb wr wT)
          have NT:=zH ((NR.out.al _).tr nT)
          have HY0:=zH ((Blk.new wr #[.int .i64 (yk:Nat),.int .i64 (ye:Nat),.int .i64 yK,.int .u32 yI,.bool yX,.bool yR,.bool yB,.bool yE,.bool yS,.int .u8 yD,.int .u8 yV,.int .u32 yA,.slice a' yl.length c'] 77).nb nT)
          clear nT x0 x1 x2 x3 x4 x5 x6 x7 x8 x9 x10 x11 x12
          go_wp2_with fail
          refine(HFC.out _).mono ?_
          rintro e wU ⟨rfl,nU⟩
          have MU:=zH (((MT.out).al _).tr nU)
          have NU:=zH ((NT.out.al _).tr nU)
          have HSB:=zH ((Blk.new wT #[.int .i64 (ph:Nat),.int .i64 (cn:Nat),.int .i64 fT,.int .i64 fR,.bool fO,.bool hs] 45).nb nU)
          have HY:=zH (HY0.out.nb ((Nb.rfl.al _).tr nU))
          have BX:=BX'
          obtain⟨y0,y1,y2,y3,y4,y5,y6,y7,y8,y9,y10,y11,y12⟩:=(Blk.h13 HY.out).2.1
          obtain⟨s0,_⟩:=s6b HSB.out
          clear nU HY0 HSS HFC
          by_cases hk2:yk=2
          ·have d1k:(((yk:Nat):Int)==1)=false:=by rw[beq_eq_false_iff_ne];omega
           have d2k:(((yk:Nat):Int)==2)=true:=by rw[beq_iff_eq];omega
           obtain⟨q1,q2,q3⟩:=m2 hk2
           have dK:decide (0 < yK)=true:=decide_eq_true q1
           have dph:(((ph:Nat):Int) != 4)=false:=by rw[bne_eq_false_iff_eq];omega
           have HCF:=zH (fun w' (m:Nb wr w')=>by
            have q:=z1g (⟨yK,yI,yX,yR,yB,yE,yS,yD,yV,yA⟩:Hd) a' c' yl w' (BX.out.below m) (HB.out _ (NS.out.nb.tr (NR.out.tr m))).2
            rw[show zP (⟨yK,yI,yX,yR,yB,yE,yS,yD,yV,yA⟩:Hd) yl=0 by simp[zP,q2]]at q
            simp only[Hd.cs]at q
            exact q)
           clear m1 m2 m3 q1 q2 q3 hk2
           go_wp2_with fail
           refine(HCF.out _ MU.out).mono ?_
           rintro e wV ⟨rfl,nV⟩
           have NV:=zH (NU.out.tr nV)
           obtain⟨y0,y1,y2,y3,y4,y5,y6,y7,y8,y9,y10,y11,y12⟩:=(Blk.h13 (HY.out.nb nV)).2.1
           obtain⟨s0,_⟩:=s6b (HSB.out.nb nV)
           clear nV
           go_wp2
           go_roundw
           case rel=>exact⟨j+1,by omega,by go_num,NV.out⟩
           case measure=>simp[intOf];omega
          by_cases hk1:yk=1
          ·have d1k:(((yk:Nat):Int)==1)=true:=by rw[beq_iff_eq];omega
           have d2k:(((yk:Nat):Int)==2)=false:=by rw[beq_eq_false_iff_ne];omega
           obtain⟨q1,q2,q3⟩:=m1 hk1
           have dK:decide (0 < yK)=true:=decide_eq_true q1
           have dph:(((ph:Nat):Int) != 8)=false:=by rw[bne_eq_false_iff_eq];omega
           have HCF:=zH (fun w' (m:Nb wr w')=>by
            have q:=z1g (⟨yK,yI,yX,yR,yB,yE,yS,yD,yV,yA⟩:Hd) a' c' yl w' (BX.out.below m) (HB.out _ (NS.out.nb.tr (NR.out.tr m))).2
            rw[show zP (⟨yK,yI,yX,yR,yB,yE,yS,yD,yV,yA⟩:Hd) yl=0 by simp[zP,q2]]at q
            simp only[Hd.cs]at q
            exact q)
           clear m1 m2 m3 q1 q2 q3 hk1
           go_wp2_with fail
           refine(HCF.out _ MU.out).mono ?_
           rintro e wV ⟨rfl,nV⟩
           have NV:=zH (NU.out.tr nV)
           obtain⟨y0,y1,y2,y3,y4,y5,y6,y7,y8,y9,y10,y11,y12⟩:=(Blk.h13 (HY.out.nb nV)).2.1
           obtain⟨s0,_⟩:=s6b (HSB.out.nb nV)
           clear nV
           go_wp2
           go_roundw
           case rel=>exact⟨j+1,by omega,by go_num,NV.out⟩
           case measure=>simp[intOf];omega
          have d1k:(((yk:Nat):Int)==1)=false:=by rw[beq_eq_false_iff_ne];omega
          have d2k:(((yk:Nat):Int)==2)=false:=by rw[beq_eq_false_iff_ne];omega
          obtain rfl:yK=0:=m3 hk1 hk2
          clear m1 m2 m3 hk1 hk2
          go_wp2
          go_roundw
          case rel=>exact⟨j+1,by omega,by go_num,NU.out⟩
          case measure=>simp[intOf];omega
         ·have hlt3':decide ((j:Int) < (l0.length:Int))=false:=decide_eq_false (by omega)
          obtain rfl:j=l0.length:=by omega
          go_wp2
          go_roundw
          case rel=>exact⟨i+1,ms,_,by omega,by go_num,NS.out.keep NR.out,AS.out.nb NR.out,LS.out,OS.out,XS.out⟩
          case measure=>simp[intOf];omega
      ·have hlt2':decide ((i:Int) < (n:Int))=false:=decide_eq_false (by omega)
       obtain rfl:i=n:=by omega
       go_wp2
       go_roundw
       case rel=>exact⟨k+1,ns,line,by omega,by go_num,N.out.n,HLN.out,HO.out,HX.out.up (by omega)⟩
       case measure=>simp[intOf];omega
    ·have hlt':decide ((k:Int) < (l1.length:Int))=false:=decide_eq_false (by omega)
     go_wp2
     go_ret
     exact⟨rfl,N0.out.nb⟩
theorem door_met(os:Os)(args:Array Value):laidMetH Tryz.prog Rows.busMayRow.laid ((World.doorLaid Tryz.prog 24 os).forCall (fun _ _=>0) ⟨#[],args,[]⟩).memory :=
 laidMetH_of_parts3 (fuel:=8) (laidMet_of_run' 8 (by kernel_rfl) (by kernel_rfl)) (by kernel_rfl) (by kernel_rfl)
theorem lifted (os:Os) (started:os.Started) (H:Type) (enc:TypeId × Value->H) :
    ReturnsInHanded {} Tryz.checked os 6 .any (fun w args=>(Rows.busMaySpec.pre enc Tryz.prog Tryz.f6 [] false w args/\laidMetH Tryz.prog Rows.busMayRow.laid w)/\sizedMet enc Tryz.prog Tryz.f6 (OpenSpec.ofChange Rows.busMaySpec) false w args)
     (Rows.busMaySpec.post enc Tryz.prog Tryz.f6 false true false false):=by
 refine returnsInHanded_of_change_and (C:=Tryz.checked) (X:=fun w _=>laidMetH Tryz.prog Rows.busMayRow.laid w) (fun _ _ _ hh h=>h.of_heap hh) own started (by kernel_rfl) Tryz.func6
  (ChangeSpec.witness_shaped (enc:=enc) (C:=Tryz.checked) (os:=os) (X:=fun w _=>laidMetH Tryz.prog Rows.busMayRow.laid w) false (World.doorLaid Tryz.prog 24 os) #[.slice none 0 0,.slice none 0 0] 8 rfl (World.shaped_of_RefB (by kernel_rfl) (by kernel_rfl)) (by kernel_rfl) (by kernel_rfl) (by kernel_rfl) (door_met os _)) ?_
 intro W base args ds gs before hval0 hW _ hR hL _
 have hval:∀(j:Nat) t v,Tryz.f6.params[j]? = some t->args[j]? = some v->Value.okWide Tryz.prog W .any base t v:=hval0
 have hW':=hW
 obtain⟨p,q,hA0,hV,rfl,hfz,hnd⟩:=hW
 have hA:DataW.TrodAll enc Tryz.prog W 0 (fun _=>true) true Tryz.f6.params.toList args.toList ds p:=hA0
 rw[Tryz.params6]at hA hval
 obtain⟨v0,vs0,d0,ds0,p0,q0,hargs,rfl,rfl,h0,r0⟩:=trodAll_cons hA
 obtain⟨v1,vs1,d1,ds1,p1,q1,rfl,rfl,rfl,h1,r1⟩:=trodAll_cons r0
 obtain⟨rfl,rfl,rfl⟩:=trodAll_nil r1
 obtain rfl:args=#[v0,v1]:=by cases args;simp_all
 obtain⟨rfl,rfl⟩:=trodVars_none hV
 have k0:=h0
 have lt0:∀x∈p0,x.block < W.heap.size:=by obtain⟨m,hm⟩:=k0;exact DataW.trod_lt m _ _ _ hm
 have k1:=h1
 have lt1:∀x∈p1,x.block < W.heap.size:=by obtain⟨m,hm⟩:=k1;exact DataW.trod_lt m _ _ _ hm
 clear hA0
 obtain⟨a0,lc0,cap0,rfl⟩:=okWide_slice Tryz.underlying22 (hval 0 22 v0 rfl rfl)
 obtain⟨fu0,hf0⟩:=h0
 have hc0:DataW.trod enc Tryz.prog W 0 (fun _=>true) true fu0 22 [.slice a0 lc0 cap0]=some (d0,p0):=hf0
 obtain⟨b0,cb0,l0,e0,hb0,n0⟩:=bools_open hc0
 simp only[Value.slice.injEq]at e0
 obtain⟨rfl,rfl,rfl⟩:=e0
 obtain⟨a1,lc1,cap1,rfl⟩:=okWide_slice Tryz.underlying23 (hval 1 23 v1 rfl rfl)
 obtain⟨fu1,hf1⟩:=h1
 have hc1:DataW.trod enc Tryz.prog W 0 (fun _=>true) true fu1 23 [.slice a1 lc1 cap1]=some (d1,p1):=hf1
 obtain⟨b1,cb1,l1,e1,hb1,n1⟩:=acts_open hc1
 simp only[Value.slice.injEq]at e1
 obtain⟨rfl,rfl,rfl⟩:=e1
 refine(walk W (ziw hL) a0 cap0 l0 hb0 n0 a1 cap1 l1 hb1 n1).mono fun e W' ⟨he,bel⟩ => ?_
 subst he
 exact⟨_,rfl,_,_,_,[],_,[],hW',trodAll_mk1 (shut_bool Tryz.underlying4 _),(trodAll_cons_mk (Below.trod laidOut (by kernel_rfl) (of_decide_eq_true (by kernel_rfl)) k0 bel lt0) (trodAll_cons_mk (Below.trod laidOut (by kernel_rfl) (of_decide_eq_true (by kernel_rfl)) k1 bel lt1) trodAll_mk0)),rfl,bel.frame _,fun h=>by cases h⟩
theorem over:Rows.busMayRow.holds Tryz.pinned (OpenSpec.ofChange Rows.busMaySpec) :=
 OpenClaim.holds_of_wide 6 Tryz.f6 rfl rfl rfl rfl rfl rfl rfl ⟨rfl,rfl,rfl,rfl,rfl⟩ rfl rfl rfl rfl rfl (by kernel_rfl) Tryz.func6 (by kernel_rfl)
  (of_decide_eq_true (by kernel_rfl)) (by unfold Func.isWrapper;first | (rw[if_pos (by decide +kernel)];kernel_rfl) | (rw[if_neg (by decide +kernel)];exact⟨rfl,rfl⟩))
  (fun os started H enc _=>lifted os started H enc)
theorem plain (f : FuncId) (fn : Func) (hf : Tryz.pinned.checked.prog.funcNamed "omnibus/omnibuslaw13.BusMay" = some f) (hfn : Tryz.pinned.checked.prog.funcs[f]? = some fn) :
    true=Tryz.pinned.checked.prog.looks []/\∀(j:Nat) t,fn.params[j]? = some t->Tryz.pinned.checked.prog.wantsStandIn t=false:=by
 obtain rfl : f = 6 := Option.some.inj ((show Tryz.prog.funcNamed "omnibus/omnibuslaw13.BusMay" = some 6 by kernel_rfl).symm.trans hf) |>.symm
 obtain rfl:fn=Tryz.f6:=(Option.some.inj (Tryz.func6.symm.trans hfn)).symm
 refine⟨by kernel_rfl,fun j t ht => ?_⟩
 rw[Tryz.params6]at ht
 have hm:t∈[22,23]:=by have:=Array.mem_of_getElem? ht;simp at this ⊢;omega
 have hall:([22,23].all fun u => !Tryz.prog.wantsStandIn u)=true:=by kernel_rfl
 exact(show Tryz.prog.wantsStandIn t=false by simpa using List.all_eq_true.1 hall t hm)
theorem proved:Rows.BusMayCardSaid :=
 Claim7.holds_tied_plain_at .later [] _ _ _ _ over (fun _ h=>by cases h) (by kernel_rfl) (fun _ h=>by cases h) busMay_row_tie rfl ⟨rfl,rfl⟩ (by kernel_rfl) rfl plain (by kernel_rfl)
#print axioms proved
end Go.Proofs.YtkjjfnmeogpdbaaGreatDoor.busMay
