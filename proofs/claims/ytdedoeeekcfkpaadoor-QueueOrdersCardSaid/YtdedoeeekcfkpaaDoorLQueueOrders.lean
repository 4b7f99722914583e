/- For all frames the law QueueOrders answers true and leaves its argument as it was; the package's table of longer sizes is tied to the program's text. No conditions. -/
import Derived.Test.YtdedoeeekcfkpaaDoorRows
import Derived.Test.YtdedoeeekcfkpaaDoorCards
import Derived.Test.YtdedoeeekcfkpaaDoorTie
import Derived.Test.YtdedoeeekcfkpaaDoorGqc
import Derived.Test.YtdedoeeekcfkpaaDoorQuS
import Derived.Test.YtdedoeeekcfkpaaDoorGor
import Derived.Test.YtdedoeeekcfkpaaDoorGj
import Derived.Test.YtdedoeeekcfkpaaDoorGe
import Derived.Test.YtdedoeeekcfkpaaDoorGa
import Derived.WalkKit
import Derived.ProofKit
import Derived.OpenShut
import Derived.ShutString
import Derived.ChangeOld
import Derived.Below
import Derived.Carry
import Derived.Lib.SmallJoins
import Derived.Deep.RegionWith
import Derived.Deep.RegionHeld3
import Derived.LaidMore
import Derived.LaidLaws
import Derived.Stop.Joined
import Derived.SevenTiedAt
set_option maxHeartbeats 8000000
set_option maxRecDepth 100000
namespace Go.Proofs.YtdedoeeekcfkpaaDoor.queueOrders
open Go.ChangeShapes Go.WideShapes Go.ChangeAt Go.RowKit Go.Joins
set_option linter.unusedVariables false
set_option linter.unusedSimpArgs false
theorem own:ownKnob Tryd.prog.godebug=none:=by kernel_rfl
theorem laidOut:laidOutB Tryd.prog=true:=by kernel_rfl
theorem walk (w:World) (hK:Longer w) (a0:Option Addr) (cap0:Nat) (l0:List (Hd × List Nat)) (h0:FrsAt w a0 cap0 l0) (n0:a0=none->cap0=0) :
    Calls Tryd.prog 4 #[.slice a0 l0.length cap0] w fun e w'=>e = .returned (.bool true)/\Nb w w':=by
 have HK:=Lib.hid hK
 have HFR:=Lib.hid h0
 have AL:=Lib.hid (fun w' (n:Nb w w')=>alive14_any w' (hK.below n))
 have hL0:=h0.len
 clear hK h0 n0
 by_cases hbig:100 < l0.length
 ·have d0:decide ((100:Int) < (l0.length:Int))=true:=decide_eq_true (by omega)
  clear hbig
  go_enter Tryd.func4,Tryd.ntmps4
  go_wp2_with fail
  refine (AL.out _ Nb.rfl).mono ?_
  rintro e w1 ⟨rfl,n1⟩
  have K1:=Lib.hid n1
  clear n1
  go_wp2
  go_ret
  exact⟨rfl,K1.out⟩
 have d0:decide ((100:Int) < (l0.length:Int))=false:=decide_eq_false (by omega)
 have hpl:=puts_last q64 l0
 have hfu:=(Qu.Full.new 64).puts l0
 have hle:(q64.puts l0).last<=100:=by
  have:q64.last=0:=rfl
  omega
 obtain⟨q,hq⟩:∃ q,q64.puts l0=q:=⟨_,rfl⟩
 have hfu:q.Full:=by rw[<- hq];exact hfu
 rw[hq] at hpl hle
 have hlen:=hfu.len
 have HFU:=Lib.hid hfu
 have HFL:=Lib.hid (fun w' (n:Nb w w')=>fill14_any a0 cap0 l0 w' (HFR.out.below n) (by omega) (HK.out.below n))
 simp only[hq] at HFL
 clear hbig hq hfu hpl
 go_enter Tryd.func4,Tryd.ntmps4
 go_wp2_with fail
 refine (AL.out _ Nb.rfl).mono ?_
 rintro e w1 ⟨rfl,n1⟩
 have K1:=Lib.hid n1
 clear n1
 go_wp2_with fail
 refine (HFL.out _ K1.out).mono ?_
 rintro e w2 ⟨vq,rfl,hN⟩
 have N2:=Lib.hid hN
 have K2:=Lib.hid (K1.out.tr hN.nb)
 have HWD:=Lib.hid hN.ok.2.2
 clear hN HFL
 go_wp2_with fail
 refine (N2.out.all (HK.out.below K2.out)).mono ?_
 rintro e w3 ⟨aA,cA,P3,rfl,hit,hP3,n3,hN3⟩
 have IT3:=Lib.hid hit
 have N3:=Lib.hid (show QuX w1 w3 vq (q.off 0) P3 from hN3.less (fun k hk => .inr hk))
 clear hit hP3 n3 hN3 N2
 go_wp2_with fail
 refine N3.out.len.mono ?_
 rintro e w4 ⟨rfl,n4⟩
 rw[show (q.off 0).its.length=q.last from hlen]
 have IT4:=Lib.hid (IT3.out.nb n4)
 have N4:=Lib.hid (N3.out.keep n4)
 clear n4 N3 IT3
 go_wp2
 go_loopw [40] (fun ix wr=>∃ j:Nat,j<=q.last/\ix = .int .i64 j/\QuX w1 wr vq (q.off j) P3/\ItsAt wr aA cA q.its P3) (fun ix _=>q.last - (intOf ix).toNat)
 case atStart=>exact⟨0,Nat.zero_le _,rfl,N4.out,IT4.out⟩
 case round =>
  obtain⟨j,hj,rfl,hN,hI⟩:=hrel
  have N:=Lib.hid hN
  have I:=Lib.hid hI
  clear hN hI N4 IT4
  by_cases hlt:j < q.last
  ·have hlt':decide ((j:Int) < (q.last:Int))=true:=decide_eq_true (by omega)
   obtain⟨⟨nx,⟨Kx,Ix,Xx,Rx,Bx,Ex,Sx,Dx,Vx,Ax⟩,lx⟩,hx⟩:∃ x,q.its.getD j dI=x:=⟨_,rfl⟩
   have hin:=it_in (show j < q.its.length by omega)
   rw[hx] at hin
   have hno:=HFU.out.ok.nos _ hin
   have hok:=HFU.out.ok.ok _ hin
   have hwd:=HWD.out _ hin
   simp only at hno hok hwd
   obtain⟨hh1,hh2⟩:=Qu.off_head q (k:=j) (by omega)
   rw[hx] at hh1
   have hhd:=N.out.head (HK.out.below (K1.out.tr N.out.nb))
   rw[hh1,hh2] at hhd
   simp only[itV,itA] at hhd
   have HHD:=Lib.hid hhd
   have HH1:=Lib.hid hh1
   have HH2:=Lib.hid hh2
   have HX:=Lib.hid hx
   clear hhd hh1 hh2 hx hin
   go_wp2_with fail
   refine HHD.out.mono ?_
   rintro e wA ⟨ah,ch,Ph,Gh,rfl,_,gk,gX,gP,hn⟩
   obtain⟨Qh,hA⟩:∃ Q,Q=wA.heap.size:=⟨_,rfl⟩
   obtain⟨uA,hu⟩:∃ u,u=wA.alloc (.cells #[.int .i64 nx,.int .i64 Kx,.int .u32 Ix,.bool Xx,.bool Rx,.bool Bx,.bool Ex,.bool Sx,.int .u8 Dx,.int .u8 Vx,.int .u32 Ax,.slice ah lx.length ch] 40):=⟨_,rfl⟩
   have NA:=Lib.hid (show QuX w1 uA vq (q.off j) (fun k=>P3 k\/k=Qh) by rw[hu,hA];exact (hn.addB _ _).less (fun k hk=>by rcases hk with h | h;exact .inl (.inl h);exact .inr h))
   have BH:=Lib.hid (show Blk uA Qh #[.int .i64 nx,.int .i64 Kx,.int .u32 Ix,.bool Xx,.bool Rx,.bool Bx,.bool Ex,.bool Sx,.int .u8 Dx,.int .u8 Vx,.int .u32 Ax,.slice ah lx.length ch] 40 by rw[hu,hA];exact Blk.new _ _ _)
   have IA:=Lib.hid (show ItsAt uA aA cA q.its P3 by rw[hu];exact (I.out.keep gk (fun k hk=>gX k hk)).nb (Nb.rfl.al _))
   have HU:=Lib.hid hu
   have HA:=Lib.hid hA
   clear hu hA hn gk gX gP HHD N I
   have htk:=NA.out.take (HK.out.below (K1.out.tr NA.out.nb))
   rw[HH1.out,HH2.out,Qu.off_take] at htk
   simp only[itV,itA] at htk
   have HTK:=Lib.hid htk
   clear htk
   go_wp2_with fail
   rw[<- HU.out,<- HA.out]
   refine HTK.out.mono ?_
   rintro e wB ⟨ax,cx,Px,Gx,rfl,dx,gk,gX,gP,hn⟩
   obtain⟨Qx,hA⟩:∃ Q,Q=wB.heap.size:=⟨_,rfl⟩
   obtain⟨uB,hu⟩:∃ u,u=wB.alloc (.cells #[.int .i64 nx,.int .i64 Kx,.int .u32 Ix,.bool Xx,.bool Rx,.bool Bx,.bool Ex,.bool Sx,.int .u8 Dx,.int .u8 Vx,.int .u32 Ax,.slice ax lx.length cx] 40):=⟨_,rfl⟩
   have NB:=Lib.hid (show QuX w1 uB vq (q.off (j+1)) P3 by rw[hu];exact (hn.addB _ _).less (fun k hk => .inl (.inl (.inl hk))))
   have bh:=BH.out.keep gk (gX _ (.inr rfl))
   have BHB:=Lib.hid (show Blk uB Qh #[.int .i64 nx,.int .i64 Kx,.int .u32 Ix,.bool Xx,.bool Rx,.bool Bx,.bool Ex,.bool Sx,.int .u8 Dx,.int .u8 Vx,.int .u32 Ax,.slice ah lx.length ch] 40 by rw[hu];exact bh.nb (Nb.rfl.al _))
   have BX:=Lib.hid (show Blk uB Qx #[.int .i64 nx,.int .i64 Kx,.int .u32 Ix,.bool Xx,.bool Rx,.bool Bx,.bool Ex,.bool Sx,.int .u8 Dx,.int .u8 Vx,.int .u32 Ax,.slice ax lx.length cx] 40 by rw[hu,hA];exact Blk.new _ _ _)
   have IB:=Lib.hid (show ItsAt uB aA cA q.its P3 by rw[hu];exact (IA.out.keep gk (fun k hk=>gX k (.inl hk))).nb (Nb.rfl.al _))
   have DX:=Lib.hid (show Bs uB ax cx lx by rw[hu];exact dx.1.below (Nb.rfl.al _))
   have HU:=Lib.hid hu
   have HA:=Lib.hid hA
   clear hu hA hn gk gX gP HTK NA BH IA dx bh HH1 HH2
   obtain⟨bA,oA,rfl,_⟩:=IB.out.hcells (by omega)
   obtain⟨pa,pc,hall⟩:=IB.out.atW (show j < q.its.length by omega) HX.out
   have HS:=Lib.hid (fun w' (n:Nb uB w')=>by
    have h:=same5_any ⟨Kx,Ix,Xx,Rx,Bx,Ex,Sx,Dx,Vx,Ax⟩ ⟨Kx,Ix,Xx,Rx,Bx,Ex,Sx,Dx,Vx,Ax⟩ ax pa cx pc lx lx w' (DX.out.below n) (hall w' n).2.1
    rw[sameF_rfl] at h
    simp only[Hd.cs] at h
    exact h)
   have HL:=Lib.hid (fun w' (n:Nb uB w')=>(hall w' n).1)
   have DD:Hid (Nb uB uB.drew):=Lib.hid (Nb.drewN uB 1)
   obtain⟨y0,y1,y2,y3,y4,y5,y6,y7,y8,y9,y10,y11⟩:=HL.out _ DD.out
   obtain⟨t0,t1,t2,t3,t4,t5,t6,t7,t8,t9,t10,t11⟩:=(BX.out.nb DD.out).c12
   have u0:=(BHB.out.nb DD.out).cell 0
   simp only[List.getElem?_toArray,List.getElem?_cons_zero] at u0
   have e1:decide ((nx:Int) < 1)=false:=decide_eq_false (by omega)
   have e1':decide (nx < 1)=false:=decide_eq_false (by omega)
   have e2:decide ((q.last:Int) < (nx:Int))=false:=decide_eq_false (by omega)
   have e2':decide (q.last < nx)=false:=decide_eq_false (by omega)
   clear hall
   go_wp2_with fail
   rw[<- HU.out,<- HA.out]
   go_region_held3 (fun w'=>((w'.cell? ⟨Qx,0,none⟩=some (.int .i64 nx)/\w'.cell? ⟨Qx,1,none⟩=some (.int .i64 Kx)/\w'.cell? ⟨Qx,2,none⟩=some (.int .u32 Ix)/\w'.cell? ⟨Qx,3,none⟩=some (.bool Xx)/\w'.cell? ⟨Qx,4,none⟩=some (.bool Rx)/\w'.cell? ⟨Qx,5,none⟩=some (.bool Bx)/\w'.cell? ⟨Qx,6,none⟩=some (.bool Ex)/\w'.cell? ⟨Qx,7,none⟩=some (.bool Sx)/\w'.cell? ⟨Qx,8,none⟩=some (.int .u8 Dx)/\w'.cell? ⟨Qx,9,none⟩=some (.int .u8 Vx)/\w'.cell? ⟨Qx,10,none⟩=some (.int .u32 Ax)/\w'.cell? ⟨Qx,11,none⟩=some (.slice ax lx.length cx)))/\w'.cell? ⟨Qh,0,none⟩=some (.int .i64 nx)/\(w'.cell? ⟨bA,oA+j*12,none⟩=some (.int .i64 nx)/\w'.cell? ⟨bA,oA+j*12+1,none⟩=some (.int .i64 Kx)/\w'.cell? ⟨bA,oA+j*12+2,none⟩=some (.int .u32 Ix)/\w'.cell? ⟨bA,oA+j*12+3,none⟩=some (.bool Xx)/\w'.cell? ⟨bA,oA+j*12+4,none⟩=some (.bool Rx)/\w'.cell? ⟨bA,oA+j*12+5,none⟩=some (.bool Bx)/\w'.cell? ⟨bA,oA+j*12+6,none⟩=some (.bool Ex)/\w'.cell? ⟨bA,oA+j*12+7,none⟩=some (.bool Sx)/\w'.cell? ⟨bA,oA+j*12+8,none⟩=some (.int .u8 Dx)/\w'.cell? ⟨bA,oA+j*12+9,none⟩=some (.int .u8 Vx)/\w'.cell? ⟨bA,oA+j*12+10,none⟩=some (.int .u32 Ax)/\w'.cell? ⟨bA,oA+j*12+11,none⟩=some (.slice pa lx.length pc))) (first | go_keep | exact⟨(BX.out.nb DD.out).c12,(BHB.out.nb DD.out).cell 0,HL.out _ DD.out⟩)
    ((go_at_call 26;refine (HS.out _ DD.out).mono ?_;rintro e wC ⟨rfl,n⟩;have DD:=Lib.hid (DD.out.tr n);clear n))
   clear y0 y1 y2 y3 y4 y5 y6 y7 y8 y9 y10 y11 t0 t1 t2 t3 t4 t5 t6 t7 t8 t9 t10 t11 u0 e1 e1' e2 e2' HS HL HU HA BHB
   have NC:=Lib.hid (NB.out.keep DD.out)
   have IC:=Lib.hid (IB.out.nb DD.out)
   by_cases hj0:j=0
   ·subst hj0
    clear hlt'
    go_wp2
    go_roundw
    case rel=>exact⟨1,by omega,by go_num,NC.out,IC.out⟩
    case measure=>simp[intOf];omega
   obtain⟨z,hzj⟩:∃ z,j=z+1:=⟨j - 1,by omega⟩
   have dj:((j:Int)==0)=false:=by rw[beq_eq_false_iff_ne];omega
   obtain⟨⟨nz,⟨Kz,Iz,Xz,Rz,Bz,Ez,Sz,Dz,Vz,Az⟩,lz⟩,hxz⟩:∃ x,q.its.getD z dI=x:=⟨_,rfl⟩
   have hinz:=it_in (show z < q.its.length by omega)
   have hso:=sort_get HFU.out.ok.sort (show z < j by omega) (by omega)
   rw[HX.out,hxz] at hso
   rw[hxz] at hinz
   have hokz:=HFU.out.ok.ok _ hinz
   have hwdz:=HWD.out _ hinz
   simp only at hokz hwdz
   unfold ItLt at hso
   simp only at hso
   obtain⟨az,cz,hallz⟩:=IB.out.atW (show z < q.its.length by omega) hxz
   have hcm:=fun w' (n:Nb uB w')=>compare_any ⟨Kz,Iz,Xz,Rz,Bz,Ez,Sz,Dz,Vz,Az⟩ ⟨Kx,Ix,Xx,Rx,Bx,Ex,Sx,Dx,Vx,Ax⟩ az ax cz cx lz lx w' (hallz w' n).2.1 (DX.out.below n) hwdz.1 hwd.1 (HK.out.below (K1.out.tr (NB.out.nb.tr n)))
   unfold AnsC cmpV cmpE at hcm
   simp only[hok,hokz,Bool.and_self,if_true] at hcm
   have HL:=Lib.hid (fun w' (n:Nb uB w')=>(hallz w' n).1)
   clear hallz hinz hxz hj0 hokz hwdz
   have hz1:IntKind.i64.wrap ((j:Int) - 1)=(z:Int):=by rw[IntWalk.i64_in _ (by omega)];omega
   have hz3:z < q.last:=by omega
   have hz4:(0:Int)<=(z:Int):=by omega
   clear hzj
   by_cases hk:keyF ⟨Kz,Iz,Xz,Rz,Bz,Ez,Sz,Dz,Vz,Az⟩ < keyF ⟨Kx,Ix,Xx,Rx,Bx,Ex,Sx,Dx,Vx,Ax⟩
   ·have HC:=Lib.hid (fun w' (n:Nb uB w')=>by
     have h:=hcm w' n
     rw[show cmpN (keyF ⟨Kz,Iz,Xz,Rz,Bz,Ez,Sz,Dz,Vz,Az⟩) (keyF ⟨Kx,Ix,Xx,Rx,Bx,Ex,Sx,Dx,Vx,Ax⟩)=(-1) by unfold cmpN;rw[if_pos hk]] at h
     simp only[Hd.cs] at h
     exact h)
    have DE:Hid (Nb uB wC.drew):=Lib.hid (DD.out.tr (Nb.drewN wC 1))
    obtain⟨y0,y1,y2,y3,y4,y5,y6,y7,y8,y9,y10,y11⟩:=HL.out _ DE.out
    obtain⟨t0,t1,t2,t3,t4,t5,t6,t7,t8,t9,t10,t11⟩:=(BX.out.nb DE.out).c12
    have NC1:=Lib.hid (trivial:True)
    clear hcm hk hso
    go_wp2_with fail
    go_region_held3 (fun w'=>((w'.cell? ⟨Qx,0,none⟩=some (.int .i64 nx)/\w'.cell? ⟨Qx,1,none⟩=some (.int .i64 Kx)/\w'.cell? ⟨Qx,2,none⟩=some (.int .u32 Ix)/\w'.cell? ⟨Qx,3,none⟩=some (.bool Xx)/\w'.cell? ⟨Qx,4,none⟩=some (.bool Rx)/\w'.cell? ⟨Qx,5,none⟩=some (.bool Bx)/\w'.cell? ⟨Qx,6,none⟩=some (.bool Ex)/\w'.cell? ⟨Qx,7,none⟩=some (.bool Sx)/\w'.cell? ⟨Qx,8,none⟩=some (.int .u8 Dx)/\w'.cell? ⟨Qx,9,none⟩=some (.int .u8 Vx)/\w'.cell? ⟨Qx,10,none⟩=some (.int .u32 Ax)/\w'.cell? ⟨Qx,11,none⟩=some (.slice ax lx.length cx)))/\(w'.cell? ⟨bA,oA+z*12,none⟩=some (.int .i64 nz)/\w'.cell? ⟨bA,oA+z*12+1,none⟩=some (.int .i64 Kz)/\w'.cell? ⟨bA,oA+z*12+2,none⟩=some (.int .u32 Iz)/\w'.cell? ⟨bA,oA+z*12+3,none⟩=some (.bool Xz)/\w'.cell? ⟨bA,oA+z*12+4,none⟩=some (.bool Rz)/\w'.cell? ⟨bA,oA+z*12+5,none⟩=some (.bool Bz)/\w'.cell? ⟨bA,oA+z*12+6,none⟩=some (.bool Ez)/\w'.cell? ⟨bA,oA+z*12+7,none⟩=some (.bool Sz)/\w'.cell? ⟨bA,oA+z*12+8,none⟩=some (.int .u8 Dz)/\w'.cell? ⟨bA,oA+z*12+9,none⟩=some (.int .u8 Vz)/\w'.cell? ⟨bA,oA+z*12+10,none⟩=some (.int .u32 Az)/\w'.cell? ⟨bA,oA+z*12+11,none⟩=some (.slice az lz.length cz))) (first | go_keep | exact⟨(BX.out.nb DE.out).c12,HL.out _ DE.out⟩)
     ((go_at_call 27;refine (HC.out _ DE.out).mono ?_;rintro e wD ⟨rfl,n⟩;have DE:=Lib.hid (DE.out.tr n);clear n))
    clear y0 y1 y2 y3 y4 y5 y6 y7 y8 y9 y10 y11 t0 t1 t2 t3 t4 t5 t6 t7 t8 t9 t10 t11
    have y0:=(HL.out _ DE.out).1
    have t0:=(BX.out.nb DE.out).cell 0
    simp only[List.getElem?_toArray,List.getElem?_cons_zero] at t0
    go_wp2_with fail
    go_quiet (fail)
    rename_i nq
    have NQ:=Lib.hid ((NB.out.keep DE.out).keep (Nb.drewN _ nq))
    have IQ:=Lib.hid ((IB.out.nb DE.out).nb (Nb.drewN _ nq))
    generalize World.drewN _ nq=wd at *
    go_wp2
    go_roundw
    case rel=>exact⟨j+1,by omega,by go_num,NQ.out,IQ.out⟩
    case measure=>simp[intOf];omega
   ·have HC:=Lib.hid (fun w' (n:Nb uB w')=>by
     have h:=hcm w' n
     rw[show cmpN (keyF ⟨Kz,Iz,Xz,Rz,Bz,Ez,Sz,Dz,Vz,Az⟩) (keyF ⟨Kx,Ix,Xx,Rx,Bx,Ex,Sx,Dx,Vx,Ax⟩)=0 by unfold cmpN;rw[if_neg (by omega),if_neg (by omega)]] at h
     simp only[Hd.cs] at h
     exact h)
    have DE:Hid (Nb uB wC.drew):=Lib.hid (DD.out.tr (Nb.drewN wC 1))
    obtain⟨y0,y1,y2,y3,y4,y5,y6,y7,y8,y9,y10,y11⟩:=HL.out _ DE.out
    obtain⟨t0,t1,t2,t3,t4,t5,t6,t7,t8,t9,t10,t11⟩:=(BX.out.nb DE.out).c12
    have NC1:=Lib.hid ((show nz < nx by omega):nz < nx)
    clear hcm hk hso
    go_wp2_with fail
    go_region_held3 (fun w'=>((w'.cell? ⟨Qx,0,none⟩=some (.int .i64 nx)/\w'.cell? ⟨Qx,1,none⟩=some (.int .i64 Kx)/\w'.cell? ⟨Qx,2,none⟩=some (.int .u32 Ix)/\w'.cell? ⟨Qx,3,none⟩=some (.bool Xx)/\w'.cell? ⟨Qx,4,none⟩=some (.bool Rx)/\w'.cell? ⟨Qx,5,none⟩=some (.bool Bx)/\w'.cell? ⟨Qx,6,none⟩=some (.bool Ex)/\w'.cell? ⟨Qx,7,none⟩=some (.bool Sx)/\w'.cell? ⟨Qx,8,none⟩=some (.int .u8 Dx)/\w'.cell? ⟨Qx,9,none⟩=some (.int .u8 Vx)/\w'.cell? ⟨Qx,10,none⟩=some (.int .u32 Ax)/\w'.cell? ⟨Qx,11,none⟩=some (.slice ax lx.length cx)))/\(w'.cell? ⟨bA,oA+z*12,none⟩=some (.int .i64 nz)/\w'.cell? ⟨bA,oA+z*12+1,none⟩=some (.int .i64 Kz)/\w'.cell? ⟨bA,oA+z*12+2,none⟩=some (.int .u32 Iz)/\w'.cell? ⟨bA,oA+z*12+3,none⟩=some (.bool Xz)/\w'.cell? ⟨bA,oA+z*12+4,none⟩=some (.bool Rz)/\w'.cell? ⟨bA,oA+z*12+5,none⟩=some (.bool Bz)/\w'.cell? ⟨bA,oA+z*12+6,none⟩=some (.bool Ez)/\w'.cell? ⟨bA,oA+z*12+7,none⟩=some (.bool Sz)/\w'.cell? ⟨bA,oA+z*12+8,none⟩=some (.int .u8 Dz)/\w'.cell? ⟨bA,oA+z*12+9,none⟩=some (.int .u8 Vz)/\w'.cell? ⟨bA,oA+z*12+10,none⟩=some (.int .u32 Az)/\w'.cell? ⟨bA,oA+z*12+11,none⟩=some (.slice az lz.length cz))) (first | go_keep | exact⟨(BX.out.nb DE.out).c12,HL.out _ DE.out⟩)
     ((go_at_call 27;refine (HC.out _ DE.out).mono ?_;rintro e wD ⟨rfl,n⟩;have DE:=Lib.hid (DE.out.tr n);clear n))
    clear y0 y1 y2 y3 y4 y5 y6 y7 y8 y9 y10 y11 t0 t1 t2 t3 t4 t5 t6 t7 t8 t9 t10 t11
    have y0:=(HL.out _ DE.out).1
    have t0:=(BX.out.nb DE.out).cell 0
    simp only[List.getElem?_toArray,List.getElem?_cons_zero] at t0
    have dn:decide (nx<=nz)=false:=decide_eq_false (by have:=NC1.out;omega)
    have dn1:decide ((nx:Int)<=(nz:Int))=false:=decide_eq_false (by have:=NC1.out;omega)
    go_wp2_with fail
    go_quiet (fail)
    rename_i nq
    have NQ:=Lib.hid ((NB.out.keep DE.out).keep (Nb.drewN _ nq))
    have IQ:=Lib.hid ((IB.out.nb DE.out).nb (Nb.drewN _ nq))
    generalize World.drewN _ nq=wd at *
    go_wp2
    go_roundw
    case rel=>exact⟨j+1,by omega,by go_num,NQ.out,IQ.out⟩
    case measure=>simp[intOf];omega
  ·have hlt':decide ((j:Int) < (q.last:Int))=false:=decide_eq_false (by omega)
   obtain rfl:j=q.last:=by omega
   obtain⟨z1,z2,z3⟩:=Qu.off_end q (k:=q.last) (by omega)
   have htk:=N.out.take (HK.out.below (K1.out.tr N.out.nb))
   rw[z1,z2,Qu.off_take] at htk
   simp only[itV,itA,dI] at htk
   have HTK:=Lib.hid htk
   obtain⟨z4,z5,z6⟩:=Qu.off_end q (k:=q.last+1) (by omega)
   have Z4:=Lib.hid z4
   have Z5:=Lib.hid z5
   have Z6:=Lib.hid z6
   clear htk z1 z2 z3 z4 z5 z6 N I hlt
   go_wp2_with fail
   refine HTK.out.mono ?_
   rintro e wA ⟨ah,ch,_,_,rfl,_,_,_,_,hn⟩
   have NA:=Lib.hid (hn.less (Y:=noX) (fun k hk=>hk.elim))
   clear hn HTK
   have hhd:=fun o=>(NA.out.keep (Nb.rfl.al o)).head (HK.out.below (K1.out.tr (NA.out.keep (Nb.rfl.al o)).nb))
   simp only[Z4.out,Z5.out,itV,itA,dI] at hhd
   have HHD:=Lib.hid hhd
   clear hhd
   go_wp2_with fail
   refine (HHD.out _).mono ?_
   rintro e wB ⟨ax,cx,_,_,rfl,_,_,_,_,hn⟩
   have NB:=Lib.hid (hn.less (Y:=noX) (fun k hk=>hk.elim))
   clear hn HHD NA
   go_wp2_with fail
   refine (NB.out.keep (Nb.rfl.al _)).len.mono ?_
   rintro e wC ⟨rfl,n⟩
   rw[Z6.out]
   have NC:=Lib.hid ((NB.out.keep (Nb.rfl.al _)).nb.tr n)
   go_wp2
   go_ret
   exact⟨rfl,K1.out.tr NC.out⟩
theorem door_met (os:Os) (args:Array Value):laidMetH Tryd.prog Rows.queueOrdersRow.laid ((World.doorLaid Tryd.prog 24 os).forCall (fun _ _=>0) ⟨#[],args,[]⟩).memory :=
 laidMetH_of_parts3 (fuel:=8) (laidMet_of_run' 8 (by kernel_rfl) (by kernel_rfl)) (by kernel_rfl) (by kernel_rfl)
theorem lifted (os:Os) (started:os.Started) (H:Type) (enc:TypeId × Value->H) :
    ReturnsInHanded {} Tryd.checked os 4 .any (fun w args=>(Rows.queueOrdersSpec.pre enc Tryd.prog Tryd.f4 [] false w args/\laidMetH Tryd.prog Rows.queueOrdersRow.laid w)/\sizedMet enc Tryd.prog Tryd.f4 (OpenSpec.ofChange Rows.queueOrdersSpec) false w args)
     (Rows.queueOrdersSpec.post enc Tryd.prog Tryd.f4 false true false false):=by
 refine returnsInHanded_of_change_and (C:=Tryd.checked) (X:=fun w _=>laidMetH Tryd.prog Rows.queueOrdersRow.laid w) (fun _ _ _ hh h=>h.of_heap hh) own started (by kernel_rfl) Tryd.func4
  (ChangeSpec.witness_shaped (enc:=enc) (C:=Tryd.checked) (os:=os) (X:=fun w _=>laidMetH Tryd.prog Rows.queueOrdersRow.laid w) false (World.doorLaid Tryd.prog 24 os) #[.slice none 0 0] 8 rfl (World.shaped_of_RefB (by kernel_rfl) (by kernel_rfl)) (by kernel_rfl) (by kernel_rfl) (by kernel_rfl) (door_met os _)) ?_
 intro W base args ds gs before hval0 hW _ hR hL _
 have hval:∀ (j:Nat) t v,Tryd.f4.params[j]? = some t->args[j]? = some v->Value.okWide Tryd.prog W .any base t v:=hval0
 have hW':=hW
 obtain⟨p,q,hA0,hV,rfl,hfz,hnd⟩:=hW
 have hA:DataW.TrodAll enc Tryd.prog W 0 (fun _=>true) true Tryd.f4.params.toList args.toList ds p:=hA0
 rw[Tryd.params4] at hA hval
 obtain⟨v0,vs0,d0,ds0,p0,q0,hargs,rfl,rfl,h0,r0⟩:=trodAll_cons hA
 obtain⟨rfl,rfl,rfl⟩:=trodAll_nil r0
 obtain rfl:args=#[v0]:=by cases args;simp_all
 obtain⟨rfl,rfl⟩:=trodVars_none hV
 have k0:=h0
 have lt0:∀ x∈p0,x.block < W.heap.size:=by obtain⟨m,hm⟩:=k0;exact DataW.trod_lt m _ _ _ hm
 clear hA0
 obtain⟨a0,lc0,cap0,rfl⟩:=okWide_slice Tryd.underlying56 (hval 0 56 v0 rfl rfl)
 obtain⟨fu0,hf0⟩:=h0
 have hc0:DataW.trod enc Tryd.prog W 0 (fun _=>true) true fu0 56 [.slice a0 lc0 cap0]=some (d0,p0):=hf0
 obtain⟨b0,cb0,l0,e0,hb0,n0⟩:=frames_opn hc0
 simp only[Value.slice.injEq] at e0
 obtain⟨rfl,rfl,rfl⟩:=e0
 refine (walk W (longer_of hL) a0 cap0 l0 hb0 n0).mono fun e W' ⟨he,bel⟩ => ?_
 subst he
 exact⟨_,rfl,_,_,_,[],_,[],hW',trodAll_mk1 (shut_bool Tryd.underlying4 _),(trodAll_cons_mk (Below.trod laidOut (by kernel_rfl) (of_decide_eq_true (by kernel_rfl)) k0 bel lt0) trodAll_mk0),rfl,bel.frame _,fun h=>by cases h⟩
theorem over:Rows.queueOrdersRow.holds Tryd.pinned (OpenSpec.ofChange Rows.queueOrdersSpec) :=
 OpenClaim.holds_of_wide 4 Tryd.f4 rfl rfl rfl rfl rfl rfl rfl ⟨rfl,rfl,rfl,rfl,rfl⟩ rfl rfl rfl rfl rfl (by kernel_rfl) Tryd.func4 (by kernel_rfl)
  (of_decide_eq_true (by kernel_rfl)) (by unfold Func.isWrapper;first | (rw[if_pos (by decide +kernel)];kernel_rfl) | (rw[if_neg (by decide +kernel)];exact⟨rfl,rfl⟩))
  (fun os started H enc _=>lifted os started H enc)
theorem plain (f : FuncId) (fn : Func) (hf : Tryd.pinned.checked.prog.funcNamed "omnibus/omnibuslaw14.QueueOrders" = some f) (hfn : Tryd.pinned.checked.prog.funcs[f]? = some fn) :
    true=Tryd.pinned.checked.prog.looks []/\∀ (j:Nat) t,fn.params[j]? = some t->Tryd.pinned.checked.prog.wantsStandIn t=false:=by
 obtain rfl : f = 4 := Option.some.inj ((show Tryd.prog.funcNamed "omnibus/omnibuslaw14.QueueOrders" = some 4 by kernel_rfl).symm.trans hf) |>.symm
 obtain rfl:fn=Tryd.f4:=(Option.some.inj (Tryd.func4.symm.trans hfn)).symm
 refine⟨by kernel_rfl,fun j t ht => ?_⟩
 rw[Tryd.params4] at ht
 have hm:t∈[56]:=by have:=Array.mem_of_getElem? ht;simp at this ⊢;omega
 have hall:([56].all fun u => !Tryd.prog.wantsStandIn u)=true:=by kernel_rfl
 exact (show Tryd.prog.wantsStandIn t=false by simpa using List.all_eq_true.1 hall t hm)
theorem proved:Rows.QueueOrdersCardSaid :=
 Claim7.holds_tied_plain_at .later [] _ _ _ _ over (fun _ h=>by cases h) (by kernel_rfl) (fun _ h=>by cases h) queueOrders_row_tie rfl ⟨rfl,rfl⟩ (by kernel_rfl) rfl plain (by kernel_rfl)
#print axioms proved
end Go.Proofs.YtdedoeeekcfkpaaDoor.queueOrders
