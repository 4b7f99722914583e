/- For all frames and turns the law QueueMixes answers true and leaves its arguments as they were; the package's table of longer sizes is tied to the program's text. No conditions. -/
import Derived.Test.YtdedoeeekcfkpaaDoorRows
import Derived.Test.YtdedoeeekcfkpaaDoorCards
import Derived.Test.YtdedoeeekcfkpaaDoorTie
import Derived.Test.YtdedoeeekcfkpaaDoorGqc
import Derived.Test.YtdedoeeekcfkpaaDoorQuS
import Derived.Test.YtdedoeeekcfkpaaDoorGor
import Derived.Test.YtdedoeeekcfkpaaDoorBlO
import Derived.Test.YtdedoeeekcfkpaaDoorGj
import Derived.Test.YtdedoeeekcfkpaaDoorGe
import Derived.Test.YtdedoeeekcfkpaaDoorGa
import Derived.WalkKit
import Derived.ProofKit
import Derived.OpenShut
import Derived.ShutString
import Derived.ChangeOld
import Derived.Below
import Derived.Carry
import Derived.Lib.SmallJoins
import Derived.Deep.RegionWith
import Derived.Deep.RegionHeld3
import Derived.LaidMore
import Derived.LaidLaws
import Derived.Stop.Joined
import Derived.SevenTiedAt
set_option maxHeartbeats 8000000
set_option maxRecDepth 100000
namespace Go.Proofs.YtdedoeeekcfkpaaDoor.queueMixes
open Go.ChangeShapes Go.WideShapes Go.ChangeAt Go.RowKit Go.Joins
set_option linter.unusedVariables false
set_option linter.unusedSimpArgs false
theorem own:ownKnob Tryd.prog.godebug=none:=by kernel_rfl
theorem laidOut:laidOutB Tryd.prog=true:=by kernel_rfl
theorem walk (w:World) (hK:Longer w) (a0:Option Addr) (cap0:Nat) (l0:List (Hd × List Nat)) (h0:FrsAt w a0 cap0 l0) (n0:a0=none->cap0=0) (a1:Option Addr) (cap1:Nat) (l1:List Bool) (h1:Bls w a1 cap1 l1) (n1:a1=none->cap1=0) :
    Calls Tryd.prog 8 #[.slice a0 l0.length cap0,.slice a1 l1.length cap1] w fun e w'=>e = .returned (.bool true)/\Nb w w':=by
 have HK:=Lib.hid hK
 have HFR:=Lib.hid h0
 have HT:=Lib.hid h1
 have AL:=Lib.hid (fun w' (n:Nb w w')=>alive14_any w' (hK.below n))
 have hL0:=h0.len
 have hL1:l1.length<=9223372036854775807:=by
  have q1:=h1.hcap
  have q2:=h1.hmax
  unfold maxLen at q2
  omega
 clear hK h0 n0 h1 n1
 by_cases hbig:100 < l0.length
 ·have d0:decide ((100:Int) < (l0.length:Int))=true:=decide_eq_true (by omega)
  clear hbig
  go_enter Tryd.func8,Tryd.ntmps8
  go_wp2_with fail
  refine (AL.out _ Nb.rfl).mono ?_
  rintro e w1 ⟨rfl,n1⟩
  have K1:=Lib.hid n1
  clear n1
  go_wp2
  go_ret
  exact⟨rfl,K1.out⟩
 have d0:decide ((100:Int) < (l0.length:Int))=false:=decide_eq_false (by omega)
 have hle:l0.length<=100:=by omega
 clear hbig
 go_enter Tryd.func8,Tryd.ntmps8
 go_wp2_with fail
 refine (AL.out _ Nb.rfl).mono ?_
 rintro e w1 ⟨rfl,n1⟩
 have K1:=Lib.hid n1
 clear n1
 go_wp2_with fail
 refine (newQ_any 64 (by omega) _ (HK.out.below K1.out)).mono ?_
 rintro e w2 ⟨R,F,rfl,g1,g2,g3⟩
 have N2:=Lib.hid (show QuX w w2 _ q64 noX from QuX.new g1 g2 g3 K1.out)
 generalize Value.pointer (some ⟨R,0,none⟩)=vq at *
 clear g1 g2 g3
 go_wp2
 go_loopw [27] (fun ix wr=>∃ (k:Nat) (q:Qu),k<=l0.length/\ix = .int .i64 k/\QuX w wr vq q noX/\q.last<=k) (fun ix _=>l0.length - (intOf ix).toNat)
 case atStart=>exact⟨0,q64,Nat.zero_le _,rfl,N2.out,Nat.le_refl _⟩
 case round =>
  obtain⟨k,q0,hk,rfl,hN,hql⟩:=hrel
  have N:=Lib.hid hN
  clear hN N2
  by_cases hlt:k < l0.length
  ·have hlt':decide ((k:Int) < (l0.length:Int))=true:=decide_eq_true (by omega)
   obtain⟨⟨⟨Kf,If,Xf,Rf,Bf,Ef,Sf,Df,Vf,Af⟩,lf⟩,hx⟩:∃ x,l0.getD k dF=x:=⟨_,rfl⟩
   obtain⟨bf,of,rfl,-⟩:=HFR.out.hcells (by omega)
   obtain⟨pf,qf,hcl,hWd,hb,hpn⟩:=HFR.out.atW hlt hx
   obtain⟨v0,v1,v2,v3,v4,v5,v6,v7,v8,v9,v10⟩:=hcl wr N.out.nb
   have hNA:=N.out.addB #[.int .i64 Kf,.int .u32 If,.bool Xf,.bool Rf,.bool Bf,.bool Ef,.bool Sf,.int .u8 Df,.int .u8 Vf,.int .u32 Af,.slice pf lf.length qf] 36
   have hp:=hNA.put ⟨Kf,If,Xf,Rf,Bf,Ef,Sf,Df,Vf,Af⟩ pf qf lf (HK.out.below hNA.nb) (hb.below hNA.nb) hpn hWd (by omega)
   have hla:=putN_last q0 ⟨Kf,If,Xf,Rf,Bf,Ef,Sf,Df,Vf,Af⟩ lf
   obtain⟨q',hq'⟩:∃ q',q0.put ⟨Kf,If,Xf,Rf,Bf,Ef,Sf,Df,Vf,Af⟩ lf=q':=⟨_,rfl⟩
   rw[hq'] at hp hla
   have hql':q'.last<=k+1:=by
    split at hla<;>omega
   generalize q0.putN ⟨Kf,If,Xf,Rf,Bf,Ef,Sf,Df,Vf,Af⟩ lf=pn at hp
   generalize q0.putE ⟨Kf,If,Xf,Rf,Bf,Ef,Sf,Df,Vf,Af⟩ lf=pe at hp hla
   simp only[Hd.cs] at hp
   have HP:=Lib.hid hp
   have Q3:=Lib.hid hql'
   clear hcl hWd hb hpn hx hNA hp hla hq' hql hql' N
   go_wp2_with fail
   refine HP.out.mono ?_
   rintro e w3 ⟨_,rfl,_,_,hn⟩
   have N3:=Lib.hid (hn.less (Y:=noX) (fun k hk=>hk.elim))
   clear hn HP v0 v1 v2 v3 v4 v5 v6 v7 v8 v9 v10
   by_cases hge:l1.length<=k
   ·have d1:decide ((l1.length:Int)<=(k:Int))=true:=decide_eq_true (by omega)
    have d1':decide (l1.length<=k)=true:=decide_eq_true hge
    clear hge
    go_wp2
    go_roundw
    case rel=>exact⟨k+1,q',by omega,by go_num,N3.out,Q3.out⟩
    case measure=>simp[intOf];omega
   have d1:decide ((l1.length:Int)<=(k:Int))=false:=decide_eq_false (by omega)
   have d1':decide (l1.length<=k)=false:=decide_eq_false hge
   obtain⟨bt,ot,rfl,hct⟩:=HT.out.hcells (by omega)
   have t0:w3.cell? ⟨bt,ot+k,none⟩=some (.bool (l1.getD k false)):=by
    have h:=hct k (by omega)
    rw[<- h]
    exact N3.out.nb.cell (p:=⟨bt,ot+k,none⟩) (World.block_lt_of_cell? _ _ h)
   have hk3:k < l1.length:=by omega
   clear hct hge
   cases hb:l1.getD k false with
   | false =>
     rw[hb] at t0
     clear hb
     go_wp2
     go_roundw
     case rel=>exact⟨k+1,q',by omega,by go_num,N3.out,Q3.out⟩
     case measure=>simp[intOf];omega
   | true =>
     rw[hb] at t0
     clear hb
     obtain⟨hso,hroom,hwd⟩:=N3.out.ok
     have hlm:q'.its.length<=64:=Nat.le_trans hso.room hroom
     have HSO:=Lib.hid hso
     have HWD:=Lib.hid hwd
     have h9:q'.its.length<=9223372036854775807:=by omega
     clear hso hroom hwd
     go_wp2_with fail
     refine (N3.out.all (HK.out.below N3.out.nb)).mono ?_
     rintro e w4 ⟨aA,cA,P3,rfl,hit,hP3,n4,hN4⟩
     have I4:=Lib.hid hit
     have N4:=Lib.hid (show QuX w w4 vq q' P3 from hN4.less (fun k hk => .inr hk))
     clear hit hP3 n4 hN4 N3 t0
     by_cases h0:q'.its.length=0
     ·have htk:=N4.out.take (HK.out.below N4.out.nb)
      have hoe:=Qu.off_end q' (k:=0) (by omega)
      rw[Qu.off_zero] at hoe
      rw[hoe.1,hoe.2.1] at htk
      simp only[itV,itA,dI] at htk
      have HTK:=Lib.hid htk
      clear htk hoe
      rw[h0]
      go_wp2_with fail
      refine HTK.out.mono ?_
      rintro e w5 ⟨ax,cx,_,_,rfl,_,_,_,_,hn⟩
      have N5:=Lib.hid ((hn.less (Y:=noX) (fun k hk=>hk.elim)).keep (Nb.rfl.al (.cells #[.int .i64 0,.int .i64 0,.int .u32 0,.bool false,.bool false,.bool false,.bool false,.bool false,.int .u8 0,.int .u8 0,.int .u32 0,.slice ax 0 cx] 40)))
      clear hn HTK N4
      go_wp2
      go_roundw
      case rel=>exact⟨k+1,q'.take,by omega,by go_num,N5.out,Q3.out⟩
      case measure=>simp[intOf];omega
     obtain⟨⟨nx,⟨Kx,Ix,Xx,Rx,Bx,Ex,Sx,Dx,Vx,Ax⟩,lx⟩,hx⟩:∃ x,q'.its.getD 0 dI=x:=⟨_,rfl⟩
     have htk:=N4.out.take (HK.out.below N4.out.nb)
     have hoh:=Qu.off_head q' (k:=0) (by omega)
     rw[Qu.off_zero,hx] at hoh
     rw[hoh.1,hoh.2] at htk
     simp only[itV,itA] at htk
     have HTK:=Lib.hid htk
     have HX:=Lib.hid hx
     have dl:((q'.its.length:Int)==0)=false:=by rw[beq_eq_false_iff_ne];omega
     clear htk hoh hx
     go_wp2_with fail
     refine HTK.out.mono ?_
     rintro e w5 ⟨ax,cx,Px,Gx,rfl,dx,gk,gX,gP,hn⟩
     obtain⟨Qx,hA⟩:∃ Q,Q=w5.heap.size:=⟨_,rfl⟩
     obtain⟨uB,hu⟩:∃ u,u=w5.alloc (.cells #[.int .i64 nx,.int .i64 Kx,.int .u32 Ix,.bool Xx,.bool Rx,.bool Bx,.bool Ex,.bool Sx,.int .u8 Dx,.int .u8 Vx,.int .u32 Ax,.slice ax lx.length cx] 40):=⟨_,rfl⟩
     have NB:=Lib.hid (show QuX w uB vq q'.take noX by rw[hu];exact (hn.addB _ _).less (fun k hk=>hk.elim))
     have BX:=Lib.hid (show Blk uB Qx #[.int .i64 nx,.int .i64 Kx,.int .u32 Ix,.bool Xx,.bool Rx,.bool Bx,.bool Ex,.bool Sx,.int .u8 Dx,.int .u8 Vx,.int .u32 Ax,.slice ax lx.length cx] 40 by rw[hu,hA];exact Blk.new _ _ _)
     have IB:=Lib.hid (show ItsAt uB aA cA q'.its P3 by rw[hu];exact (I4.out.keep gk (fun k hk=>gX k hk)).nb (Nb.rfl.al _))
     have DX:=Lib.hid (show Bs uB ax cx lx by rw[hu];exact dx.1.below (Nb.rfl.al _))
     have HU:=Lib.hid hu
     have HA:=Lib.hid hA
     clear hu hA hn gk gX gP dx HTK N4 I4
     go_wp2
     rw[<- HU.out,<- HA.out]
     go_loopw [60] (fun ix wr=>∃ m:Nat,m<=q'.its.length/\ix = .int .i64 m/\Nb uB wr) (fun ix _=>q'.its.length - (intOf ix).toNat)
     case atStart=>exact⟨0,Nat.zero_le _,rfl,Nb.rfl⟩
     case round =>
      obtain⟨m,hm,rfl,hn⟩:=hrel
      have M:=Lib.hid hn
      clear hn
      by_cases hml:m < q'.its.length
      ·have hml':decide ((m:Int) < (q'.its.length:Int))=true:=decide_eq_true (by omega)
       obtain⟨⟨nz,⟨Kz,Iz,Xz,Rz,Bz,Ez,Sz,Dz,Vz,Az⟩,lz⟩,hz⟩:∃ x,q'.its.getD m dI=x:=⟨_,rfl⟩
       have hle1:keyF ⟨Kx,Ix,Xx,Rx,Bx,Ex,Sx,Dx,Vx,Ax⟩<=keyF ⟨Kz,Iz,Xz,Rz,Bz,Ez,Sz,Dz,Vz,Az⟩:=by
        have h:=sort_le HSO.out.sort (Nat.zero_le m) hml
        rw[HX.out,hz] at h
        exact h
       have hno:keyF ⟨Kx,Ix,Xx,Rx,Bx,Ex,Sx,Dx,Vx,Ax⟩=keyF ⟨Kz,Iz,Xz,Rz,Bz,Ez,Sz,Dz,Vz,Az⟩->nx<=nz:=fun he=>by
        by_cases hm0:m=0
        ·subst hm0
         have h:=HX.out.symm.trans hz
         simp only[It.mk.injEq] at h
         omega
        ·have h:=sort_get HSO.out.sort (show 0 < m by omega) hml
         rw[HX.out,hz] at h
         unfold ItLt at h
         simp only at h
         omega
       have hinx:=it_in (show 0 < q'.its.length by omega)
       have hinz:=it_in hml
       rw[HX.out] at hinx
       rw[hz] at hinz
       have hokx:=HSO.out.ok _ hinx
       have hokz:=HSO.out.ok _ hinz
       have hwdx:=HWD.out _ hinx
       have hwdz:=HWD.out _ hinz
       simp only at hokx hokz hwdx hwdz
       obtain⟨bA,oA,rfl,_⟩:=IB.out.hcells (by omega)
       obtain⟨az,cz,hall⟩:=IB.out.atW hml hz
       obtain⟨⟨y0,y1,y2,y3,y4,y5,y6,y7,y8,y9,y10,y11⟩,hdz⟩:=hall wr M.out
       obtain⟨t0,t1,t2,t3,t4,t5,t6,t7,t8,t9,t10,t11⟩:=(BX.out.nb M.out).c12
       have zx:=(BX.out.nb M.out).lt
       have hcm:=fun w' (n:Nb wr w')=>compare_any ⟨Kx,Ix,Xx,Rx,Bx,Ex,Sx,Dx,Vx,Ax⟩ ⟨Kz,Iz,Xz,Rz,Bz,Ez,Sz,Dz,Vz,Az⟩ ax az cx cz lx lz w' (DX.out.below (M.out.tr n)) (hdz.1.below n) hwdx.1 hwdz.1 (HK.out.below (NB.out.nb.tr (M.out.tr n)))
       unfold AnsC cmpV cmpE at hcm
       simp only[hokx,hokz,Bool.and_self,if_true] at hcm
       have HNO:=Lib.hid hno
       have HB:=Lib.hid (fun w' (n:Nb wr w')=>(BX.out.nb (M.out.tr n)).cell 0)
       have HZB:=Lib.hid (Blk.new wr #[.int .i64 nz,.int .i64 Kz,.int .u32 Iz,.bool Xz,.bool Rz,.bool Bz,.bool Ez,.bool Sz,.int .u8 Dz,.int .u8 Vz,.int .u32 Az,.slice az lz.length cz] 40)
       clear hall hdz hinx hinz hokx hokz hwdx hwdz hz hno
       by_cases hkk:keyF ⟨Kx,Ix,Xx,Rx,Bx,Ex,Sx,Dx,Vx,Ax⟩ < keyF ⟨Kz,Iz,Xz,Rz,Bz,Ez,Sz,Dz,Vz,Az⟩
       ·have HC:=Lib.hid (fun w' (n:Nb wr w')=>by
         have h:=hcm w' n
         rw[show cmpN (keyF ⟨Kx,Ix,Xx,Rx,Bx,Ex,Sx,Dx,Vx,Ax⟩) (keyF ⟨Kz,Iz,Xz,Rz,Bz,Ez,Sz,Dz,Vz,Az⟩)=(-1) by unfold cmpN;rw[if_pos hkk]] at h
         simp only[Hd.cs] at h
         exact h)
        have NC1:=Lib.hid (show True from trivial)
        clear hcm hkk HNO hle1
        go_wp2_with fail
        refine (HC.out _ (Nb.rfl.al _)).mono ?_
        rintro e w6 ⟨rfl,n6⟩
        have M6:=Lib.hid ((M.out.al _).tr n6)
        have yz:=(HZB.out.nb n6).cell 0
        have yx:=HB.out _ ((Nb.rfl.al _).tr n6)
        simp only[List.getElem?_toArray,List.getElem?_cons_zero] at yz yx
        clear n6 y0 y1 y2 y3 y4 y5 y6 y7 y8 y9 y10 y11 t0 t1 t2 t3 t4 t5 t6 t7 t8 t9 t10 t11
        go_wp2
        go_roundw
        case rel=>exact⟨m+1,by omega,by go_num,M6.out⟩
        case measure=>simp[intOf];omega
       ·have HC:=Lib.hid (fun w' (n:Nb wr w')=>by
         have h:=hcm w' n
         rw[show cmpN (keyF ⟨Kx,Ix,Xx,Rx,Bx,Ex,Sx,Dx,Vx,Ax⟩) (keyF ⟨Kz,Iz,Xz,Rz,Bz,Ez,Sz,Dz,Vz,Az⟩)=0 by unfold cmpN;rw[if_neg (by omega),if_neg (by omega)]] at h
         simp only[Hd.cs] at h
         exact h)
        have NC1:=Lib.hid (show nx<=nz from HNO.out (by omega))
        clear hcm hkk HNO hle1
        go_wp2_with fail
        refine (HC.out _ (Nb.rfl.al _)).mono ?_
        rintro e w6 ⟨rfl,n6⟩
        have M6:=Lib.hid ((M.out.al _).tr n6)
        have yz:=(HZB.out.nb n6).cell 0
        have yx:=HB.out _ ((Nb.rfl.al _).tr n6)
        simp only[List.getElem?_toArray,List.getElem?_cons_zero] at yz yx
        have dn:decide (nz < nx)=false:=decide_eq_false (by have:=NC1.out;omega)
        have dn1:decide ((nz:Int) < (nx:Int))=false:=decide_eq_false (by have:=NC1.out;omega)
        clear n6 y0 y1 y2 y3 y4 y5 y6 y7 y8 y9 y10 y11 t0 t1 t2 t3 t4 t5 t6 t7 t8 t9 t10 t11
        go_wp2
        go_roundw
        case rel=>exact⟨m+1,by omega,by go_num,M6.out⟩
        case measure=>simp[intOf];omega
      ·have hml':decide ((m:Int) < (q'.its.length:Int))=false:=decide_eq_false (by omega)
       have NE:=Lib.hid (NB.out.keep M.out)
       clear NB
       go_wp2_with fail
       refine (NE.out.all (HK.out.below NE.out.nb)).mono ?_
       rintro e w6 ⟨aB,cB,P6,rfl,_,_,n6,_⟩
       have N6:=Lib.hid (NE.out.keep n6)
       rw[show q'.take.its.length=q'.its.length - 1 by simp[Qu.take]]
       obtain⟨L1,hL1⟩:∃ L1,q'.its.length - 1=L1:=⟨_,rfl⟩
       rw[hL1]
       have hw1:IntKind.i64.wrap ((q'.its.length:Int) - 1)=(L1:Int):=by rw[IntWalk.i64_in _ (by omega)];omega
       have hw2:(q'.its.length:Int) - 1=(L1:Int):=by omega
       have hw3:L1<=64:=by omega
       clear n6 NE hL1
       go_wp2
       go_roundw
       case rel=>exact⟨k+1,q'.take,by omega,by go_num,N6.out,Q3.out⟩
       case measure=>simp[intOf];omega
  ·have hlt':decide ((k:Int) < (l0.length:Int))=false:=decide_eq_false (by omega)
   go_wp2
   go_ret
   exact⟨rfl,N.out.nb⟩
theorem door_met (os:Os) (args:Array Value):laidMetH Tryd.prog Rows.queueMixesRow.laid ((World.doorLaid Tryd.prog 24 os).forCall (fun _ _=>0) ⟨#[],args,[]⟩).memory :=
 laidMetH_of_parts3 (fuel:=8) (laidMet_of_run' 8 (by kernel_rfl) (by kernel_rfl)) (by kernel_rfl) (by kernel_rfl)
theorem lifted (os:Os) (started:os.Started) (H:Type) (enc:TypeId × Value->H) :
    ReturnsInHanded {} Tryd.checked os 8 .any (fun w args=>(Rows.queueMixesSpec.pre enc Tryd.prog Tryd.f8 [] false w args/\laidMetH Tryd.prog Rows.queueMixesRow.laid w)/\sizedMet enc Tryd.prog Tryd.f8 (OpenSpec.ofChange Rows.queueMixesSpec) false w args)
     (Rows.queueMixesSpec.post enc Tryd.prog Tryd.f8 false true false false):=by
 refine returnsInHanded_of_change_and (C:=Tryd.checked) (X:=fun w _=>laidMetH Tryd.prog Rows.queueMixesRow.laid w) (fun _ _ _ hh h=>h.of_heap hh) own started (by kernel_rfl) Tryd.func8
  (ChangeSpec.witness_shaped (enc:=enc) (C:=Tryd.checked) (os:=os) (X:=fun w _=>laidMetH Tryd.prog Rows.queueMixesRow.laid w) false (World.doorLaid Tryd.prog 24 os) #[.slice none 0 0,.slice none 0 0] 8 rfl (World.shaped_of_RefB (by kernel_rfl) (by kernel_rfl)) (by kernel_rfl) (by kernel_rfl) (by kernel_rfl) (door_met os _)) ?_
 intro W base args ds gs before hval0 hW _ hR hL _
 have hval:∀ (j:Nat) t v,Tryd.f8.params[j]? = some t->args[j]? = some v->Value.okWide Tryd.prog W .any base t v:=hval0
 have hW':=hW
 obtain⟨p,q,hA0,hV,rfl,hfz,hnd⟩:=hW
 have hA:DataW.TrodAll enc Tryd.prog W 0 (fun _=>true) true Tryd.f8.params.toList args.toList ds p:=hA0
 rw[Tryd.params8] at hA hval
 obtain⟨v0,vs0,d0,ds0,p0,q0,hargs,rfl,rfl,h0,r0⟩:=trodAll_cons hA
 obtain⟨v1,vs1,d1,ds1,p1,q1,rfl,rfl,rfl,h1,r1⟩:=trodAll_cons r0
 obtain⟨rfl,rfl,rfl⟩:=trodAll_nil r1
 obtain rfl:args=#[v0,v1]:=by cases args;simp_all
 obtain⟨rfl,rfl⟩:=trodVars_none hV
 have k0:=h0
 have lt0:∀ x∈p0,x.block < W.heap.size:=by obtain⟨m,hm⟩:=k0;exact DataW.trod_lt m _ _ _ hm
 have k1:=h1
 have lt1:∀ x∈p1,x.block < W.heap.size:=by obtain⟨m,hm⟩:=k1;exact DataW.trod_lt m _ _ _ hm
 clear hA0
 obtain⟨a0,lc0,cap0,rfl⟩:=okWide_slice Tryd.underlying56 (hval 0 56 v0 rfl rfl)
 obtain⟨fu0,hf0⟩:=h0
 have hc0:DataW.trod enc Tryd.prog W 0 (fun _=>true) true fu0 56 [.slice a0 lc0 cap0]=some (d0,p0):=hf0
 obtain⟨b0,cb0,l0,e0,hb0,n0⟩:=frames_opn hc0
 simp only[Value.slice.injEq] at e0
 obtain⟨rfl,rfl,rfl⟩:=e0
 obtain⟨a1,lc1,cap1,rfl⟩:=okWide_slice Tryd.underlying68 (hval 1 68 v1 rfl rfl)
 obtain⟨fu1,hf1⟩:=h1
 have hc1:DataW.trod enc Tryd.prog W 0 (fun _=>true) true fu1 68 [.slice a1 lc1 cap1]=some (d1,p1):=hf1
 obtain⟨b1,cb1,l1,e1,hb1,n1⟩:=bools_open hc1
 simp only[Value.slice.injEq] at e1
 obtain⟨rfl,rfl,rfl⟩:=e1
 refine (walk W (longer_of hL) a0 cap0 l0 hb0 n0 a1 cap1 l1 hb1 n1).mono fun e W' ⟨he,bel⟩ => ?_
 subst he
 exact⟨_,rfl,_,_,_,[],_,[],hW',trodAll_mk1 (shut_bool Tryd.underlying4 _),(trodAll_cons_mk (Below.trod laidOut (by kernel_rfl) (of_decide_eq_true (by kernel_rfl)) k0 bel lt0) (trodAll_cons_mk (Below.trod laidOut (by kernel_rfl) (of_decide_eq_true (by kernel_rfl)) k1 bel lt1) trodAll_mk0)),rfl,bel.frame _,fun h=>by cases h⟩
theorem over:Rows.queueMixesRow.holds Tryd.pinned (OpenSpec.ofChange Rows.queueMixesSpec) :=
 OpenClaim.holds_of_wide 8 Tryd.f8 rfl rfl rfl rfl rfl rfl rfl ⟨rfl,rfl,rfl,rfl,rfl⟩ rfl rfl rfl rfl rfl (by kernel_rfl) Tryd.func8 (by kernel_rfl)
  (of_decide_eq_true (by kernel_rfl)) (by unfold Func.isWrapper;first | (rw[if_pos (by decide +kernel)];kernel_rfl) | (rw[if_neg (by decide +kernel)];exact⟨rfl,rfl⟩))
  (fun os started H enc _=>lifted os started H enc)
theorem plain (f : FuncId) (fn : Func) (hf : Tryd.pinned.checked.prog.funcNamed "omnibus/omnibuslaw14.QueueMixes" = some f) (hfn : Tryd.pinned.checked.prog.funcs[f]? = some fn) :
    true=Tryd.pinned.checked.prog.looks []/\∀ (j:Nat) t,fn.params[j]? = some t->Tryd.pinned.checked.prog.wantsStandIn t=false:=by
 obtain rfl : f = 8 := Option.some.inj ((show Tryd.prog.funcNamed "omnibus/omnibuslaw14.QueueMixes" = some 8 by kernel_rfl).symm.trans hf) |>.symm
 obtain rfl:fn=Tryd.f8:=(Option.some.inj (Tryd.func8.symm.trans hfn)).symm
 refine⟨by kernel_rfl,fun j t ht => ?_⟩
 rw[Tryd.params8] at ht
 have hm:t∈[56,68]:=by have:=Array.mem_of_getElem? ht;simp at this ⊢;omega
 have hall:([56,68].all fun u => !Tryd.prog.wantsStandIn u)=true:=by kernel_rfl
 exact (show Tryd.prog.wantsStandIn t=false by simpa using List.all_eq_true.1 hall t hm)
theorem proved:Rows.QueueMixesCardSaid :=
 Claim7.holds_tied_plain_at .later [] _ _ _ _ over (fun _ h=>by cases h) (by kernel_rfl) (fun _ h=>by cases h) queueMixes_row_tie rfl ⟨rfl,rfl⟩ (by kernel_rfl) rfl plain (by kernel_rfl)
#print axioms proved
end Go.Proofs.YtdedoeeekcfkpaaDoor.queueMixes
