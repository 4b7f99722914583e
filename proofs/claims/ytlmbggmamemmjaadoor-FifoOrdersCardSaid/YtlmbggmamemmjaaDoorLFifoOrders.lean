/- For every number of places and all frames the law FifoOrders answers true and leaves its arguments as they were; the package's table of longer sizes is tied to the program's text. No conditions. -/
import Derived.Test.YtlmbggmamemmjaaDoorRows
import Derived.Test.YtlmbggmamemmjaaDoorCards
import Derived.Test.YtlmbggmamemmjaaDoorTie
import Derived.Test.YtlmbggmamemmjaaDoorFiA
import Derived.Test.YtlmbggmamemmjaaDoorFiO
import Derived.Test.YtlmbggmamemmjaaDoorOrO
import Derived.Test.YtlmbggmamemmjaaDoorGe
import Derived.Test.YtlmbggmamemmjaaDoorGa
import Derived.WalkKit
import Derived.ProofKit
import Derived.OpenShut
import Derived.ShutString
import Derived.ChangeOld
import Derived.Below
import Derived.Carry
import Derived.Lib.SmallJoins
import Derived.Deep.RegionWith
import Derived.Deep.RegionHeld3
import Derived.LaidMore
import Derived.LaidLaws
import Derived.Stop.Joined
import Derived.SevenTiedAt
set_option maxHeartbeats 8000000
set_option maxRecDepth 100000
namespace Go.Proofs.YtlmbggmamemmjaaDoor.fifoOrders
open Go.ChangeShapes Go.WideShapes Go.ChangeAt Go.RowKit Go.Joins
set_option linter.unusedVariables false
set_option linter.unusedSimpArgs false
theorem own:ownKnob Tryd.prog.godebug=none:=by kernel_rfl
theorem laidOut:laidOutB Tryd.prog=true:=by kernel_rfl
theorem walk (w:World) (hK:Longer w) (a0:Int) (w0:(Lit.int .i64 a0).wf=true) (a1:Option Addr) (cap1:Nat) (l1:List (Hd × List Nat)) (h1:FrsAt w a1 cap1 l1) (n1:a1=none->cap1=0) :
    Calls Tryd.prog 4 #[.int .i64 a0,.slice a1 l1.length cap1] w fun e w'=>e = .returned (.bool true)/\Nb w w':=by
 have HK:=Lib.hid hK
 have HFR:=Lib.hid h1.rd
 have AL:=Lib.hid (fun w' (n:Nb w w')=>alive16_any w' (hK.below n))
 have hL1:=h1.len
 clear hK h1 n1
 by_cases hr:a0 < 0\/64 < a0
 ·clear w0
  have hnew:=Lib.hid (fun w'=>newF_bad a0 (by omega) w')
  clear hr
  go_enter Tryd.func4,Tryd.ntmps4
  go_wp2_with fail
  refine (AL.out _ Nb.rfl).mono ?_
  rintro e w1 ⟨rfl,n1⟩
  have K1:=Lib.hid n1
  clear n1
  go_wp2_with fail
  refine (hnew.out _).mono ?_
  rintro e w2 ⟨rfl,n2⟩
  have K2:=Lib.hid (K1.out.tr n2)
  clear n2
  go_wp2
  go_ret
  exact⟨rfl,K2.out⟩
 obtain⟨room,rfl⟩:∃ r:Nat,a0=(r:Int):=⟨a0.toNat,by omega⟩
 have hr64:room<=64:=by omega
 clear hr w0
 by_cases hbig:200 < l1.length
 ·have d0:decide ((200:Int) < (l1.length:Int))=true:=decide_eq_true (by omega)
  clear hbig
  go_enter Tryd.func4,Tryd.ntmps4
  go_wp2_with fail
  refine (AL.out _ Nb.rfl).mono ?_
  rintro e w1 ⟨rfl,n1⟩
  have K1:=Lib.hid n1
  clear n1
  go_wp2_with fail
  refine (newF_any room hr64 _).mono ?_
  rintro e w2 ⟨R,F,rfl,g1,g2,g3⟩
  have K2:=Lib.hid (K1.out.tr g3)
  clear g1 g2 g3
  go_wp2
  go_ret
  exact⟨rfl,K2.out⟩
 have d0:decide ((200:Int) < (l1.length:Int))=false:=decide_eq_false (by omega)
 have hle:l1.length<=200:=by omega
 clear hbig
 go_enter Tryd.func4,Tryd.ntmps4
 go_wp2_with fail
 refine (AL.out _ Nb.rfl).mono ?_
 rintro e w1 ⟨rfl,n1⟩
 have K1:=Lib.hid n1
 clear n1
 go_wp2_with fail
 refine (newF_any room hr64 _).mono ?_
 rintro e w2 ⟨R,F,rfl,g1,g2,g3⟩
 have N2:=Lib.hid (show FiX w w2 _ ⟨room,0,[]⟩ (fun k=>Value.ownBlock (.slice none 0 0)=some k) from (FiX.new g1 g2 g3 K1.out).less (fun k hk=>by simp[Value.ownBlock] at hk))
 generalize Value.pointer (some ⟨R,0,none⟩)=vq at *
 clear g1 g2 g3
 go_wp2
 go_loopw [7,35] (fun mv ix wr=>∃ (k:Nat) (M:List FrI) (q:Fi),k<=l1.length/\ix = .int .i64 k/\M.length<=k/\OwnF wr mv M/\RowF (fun a c l=>Bs w a c l) M/\(∀ g,mv.ownBlock=some g->w.heap.size<=g)/\StO room (M.map Prod.fst) q/\FiX w wr vq q (fun k=>mv.ownBlock=some k)) (fun _ ix _=>l1.length - (intOf ix).toNat)
 case atStart=>exact⟨0,[],⟨room,0,[]⟩,Nat.zero_le _,rfl,Nat.le_refl _,OwnF.nil _,RowF.nil _,by simp[Value.ownBlock],StO.new room,N2.out⟩
 case round =>
  obtain⟨k,M,q,hk,rfl,hMk,ho,hrw,hog,hst,hN⟩:=hrel
  have N:=Lib.hid hN
  have OW:=Lib.hid ho
  have RW:=Lib.hid hrw
  have OG:=Lib.hid hog
  have ST:=Lib.hid hst
  clear hN ho hrw hog hst N2
  by_cases hlt:k < l1.length
  ·have hlt':decide ((k:Int) < (l1.length:Int))=true:=decide_eq_true (by omega)
   obtain⟨⟨⟨Kf,If,Xf,Rf,Bf,Ef,Sf,Df,Vf,Af⟩,lf⟩,hx⟩:∃ x,l1.getD k dF=x:=⟨_,rfl⟩
   obtain⟨bf,of,rfl,-⟩:=HFR.out.hcells (by omega)
   obtain⟨pf,qf,hat⟩:=HFR.out.at hlt hx
   have AT:=Lib.hid hat
   obtain⟨⟨v0,v1,v2,v3,v4,v5,v6,v7,v8,v9,v10⟩,_⟩:=AT.out wr (N.out.nb)
   clear hat
   have hbw:=(AT.out w Nb.rfl).2
   have HBW:=Lib.hid hbw
   obtain⟨QB,hQ⟩:∃ Q,Q=wr.heap.size:=⟨_,rfl⟩
   obtain⟨uB,hu⟩:∃ u,u=wr.alloc (.cells #[.int .i64 Kf,.int .u32 If,.bool Xf,.bool Rf,.bool Bf,.bool Ef,.bool Sf,.int .u8 Df,.int .u8 Vf,.int .u32 Af,.slice pf lf.length qf] 36):=⟨_,rfl⟩
   have HU:=Lib.hid hu
   have HQ:=Lib.hid hQ
   have NU:=Lib.hid (show FiX w uB vq q (fun k=>k=QB\/Value.ownBlock u7=some k) by rw[hu,hQ];exact (N.out.addB _ _).less (fun k hk=>hk.symm))
   have BU:=Lib.hid (show Blk uB QB _ _ by rw[hu,hQ];exact Blk.new _ _ _)
   have hov:q.over<=1000000:=by
    have:=ST.out.over
    rw[List.length_map] at this
    omega
   have hp:=NU.out.push ⟨Kf,If,Xf,Rf,Bf,Ef,Sf,Df,Vf,Af⟩ pf qf lf (HK.out.below NU.out.nb) (AT.out _ NU.out.nb).2 hov
   have CK:=Lib.hid (fun w' (n:Nb w w')=>check5_any ⟨Kf,If,Xf,Rf,Bf,Ef,Sf,Df,Vf,Af⟩ pf qf lf w' (AT.out w' n).2 (HK.out.below n))
   have HOQ:=Lib.hid (show ∀ g,Value.ownBlock u7=some g->g < QB by rw[hQ];exact fun g hg=>OW.out.lt hg)
   have OWU:=Lib.hid (show OwnF uB u7 M by rw[hu];exact OW.out.nb (Nb.rfl.al _))
   have HMK:=Lib.hid hMk
   clear hov hbw hMk
   cases hok:okF ⟨Kf,If,Xf,Rf,Bf,Ef,Sf,Df,Vf,Af⟩ lf with
   | false =>
     rw[(push_bad hok).1,(push_bad hok).2,show checkN ⟨Kf,If,Xf,Rf,Bf,Ef,Sf,Df,Vf,Af⟩ lf=2 by simp[checkN,hok]] at hp
     rw[show checkN ⟨Kf,If,Xf,Rf,Bf,Ef,Sf,Df,Vf,Af⟩ lf=2 by simp[checkN,hok]] at CK
     simp only[Hd.cs] at hp CK
     have HP:=Lib.hid hp
     clear hp hok hx hu hQ N AT OW
     go_wp2_with fail
     rw[<- HU.out]
     refine HP.out.mono ?_
     rintro e w3 ⟨G,rfl,gk,gX,_,hn⟩
     have N3:=Lib.hid hn
     have OW3:=Lib.hid (OWU.out.keep gk (fun g hg=>gX g (.inr hg)))
     obtain⟨c0,c1,c2,c3,c4,c5,c6,c7,c8,c9,c10⟩:=(BU.out.keep gk (gX QB (.inl rfl))).c11
     rw[HQ.out] at c0 c1 c2 c3 c4 c5 c6 c7 c8 c9 c10
     clear hn gk gX HP BU NU HU OWU
     go_wp2_with fail
     refine (CK.out _ N3.out.nb).mono ?_
     rintro e w4 ⟨rfl,n4⟩
     have N4:=Lib.hid ((N3.out.keep n4).less (Y:=fun k=>Value.ownBlock u7=some k) (fun k hk => .inr hk))
     have OW4:=Lib.hid (OW3.out.nb n4)
     clear n4 N3 CK OW3
     go_wp2
     go_roundw
     case rel=>exact⟨k+1,M,q,by omega,by go_num,by have:=HMK.out;omega,OW4.out,RW.out,OG.out,ST.out,N4.out⟩
     case measure=>simp[intOf];omega
   | true =>
     rw[ST.out.pushB hok,List.length_map,show checkN ⟨Kf,If,Xf,Rf,Bf,Ef,Sf,Df,Vf,Af⟩ lf=0 by simp[checkN,hok]] at hp
     rw[show checkN ⟨Kf,If,Xf,Rf,Bf,Ef,Sf,Df,Vf,Af⟩ lf=0 by simp[checkN,hok]] at CK
     have ST1:=Lib.hid (ST.out.push hok)
     simp only[Hd.cs] at hp CK
     obtain⟨q1,hq1⟩:∃ q1,q.push ⟨Kf,If,Xf,Rf,Bf,Ef,Sf,Df,Vf,Af⟩ lf=q1:=⟨_,rfl⟩
     rw[hq1] at hp ST1
     have HML:=Lib.hid (show M.length<=200 by have:=HMK.out;omega)
     clear hok hx hu hQ N AT OW hq1
     obtain⟨am,cm,rfl,-,hmc,hmx,-⟩:=OWU.out.shape
     by_cases hlt2:M.length < room
     ·have e1:decide (M.length < room)=true:=decide_eq_true hlt2
      have e2:decide ((M.length:Int) < (room:Int))=true:=decide_eq_true (by omega)
      have e3:decide ((room:Int)<=(M.length:Int))=false:=decide_eq_false (by omega)
      have e4:decide (room<=M.length)=false:=decide_eq_false (by omega)
      rw[e1] at hp
      have HP:=Lib.hid hp
      clear hp hlt2
      go_wp2_with fail
      rw[<- HU.out]
      refine HP.out.mono ?_
      rintro e w3 ⟨G,rfl,gk,gX,_,hn⟩
      have N3:=Lib.hid hn
      have OW3:=Lib.hid (OWU.out.keep gk (fun g hg=>gX g (.inr hg)))
      have B3:=Lib.hid (BU.out.keep gk (gX QB (.inl rfl)))
      obtain⟨c0,c1,c2,c3,c4,c5,c6,c7,c8,c9,c10⟩:=B3.out.c11
      rw[HQ.out] at c0 c1 c2 c3 c4 c5 c6 c7 c8 c9 c10
      clear hn gk gX HP BU NU HU OWU
      go_wp2_with fail
      refine (CK.out _ N3.out.nb).mono ?_
      rintro e w4 ⟨rfl,n4⟩
      have N4:=Lib.hid (N3.out.keep n4)
      have OW4:=Lib.hid (OW3.out.nb n4)
      have B4:=Lib.hid (B3.out.nb n4)
      clear n4 N3 CK OW3 B3 c0 c1 c2 c3 c4 c5 c6 c7 c8 c9 c10
      obtain⟨c0,c1,c2,c3,c4,c5,c6,c7,c8,c9,c10⟩:=B4.out.c11
      rw[HQ.out] at c0 c1 c2 c3 c4 c5 c6 c7 c8 c9 c10
      have B11:=Lib.hid (Blk.new w4 #[.int .i64 Kf,.int .u32 If,.bool Xf,.bool Rf,.bool Bf,.bool Ef,.bool Sf,.int .u8 Df,.int .u8 Vf,.int .u32 Af,.slice pf lf.length qf] 36)
      go_wp2_with (at_builtin;refine wpList_appF _ rfl (.tmp 76) (.tmp 78) rfl _ M rfl (OW4.out.nb (Nb.rfl.al _)) w4.heap.size ⟨Kf,If,Xf,Rf,Bf,Ef,Sf,Df,Vf,Af⟩ lf pf qf rfl (fun i hi=>(B11.out.cell i).trans (by rw[List.getElem?_toArray])) (by have:=HML.out;omega) ?_)
      intro vo w5 ho5 hk5 hf5
      have R1:=Lib.hid ho5
      have R2:=Lib.hid (RW.out.app (RowF.one (f:=⟨Kf,If,Xf,Rf,Bf,Ef,Sf,Df,Vf,Af⟩) HBW.out))
      have hs4:=N4.out.nb.size
      have R3:=Lib.hid (show ∀ g,vo.ownBlock=some g->w.heap.size<=g from fun g hg=>by
       rcases hf5 g hg with h | h
       ·exact OG.out g h
       ·omega)
      have R4:=Lib.hid (show FiX w w5 vq q1 (fun k=>vo.ownBlock=some k) from (N4.out.row (fun g hg=>⟨.inr hg,OG.out g hg⟩) hk5 hf5 (fun g hg=>R1.out.lt hg)).less (fun k hk => .inr hk))
      clear ho5 hk5 hf5 hs4
      go_wp2
      go_roundw
      case rel=>exact⟨k+1,_,q1,by omega,by go_num,by rw[List.length_append,List.length_singleton];have:=HMK.out;omega,R1.out,R2.out,R3.out,by rw[List.map_append];exact ST1.out,R4.out⟩
      case measure=>simp[intOf];omega
     ·have e1:decide (M.length < room)=false:=decide_eq_false hlt2
      have e2:decide ((M.length:Int) < (room:Int))=false:=decide_eq_false (by omega)
      have e3:decide ((room:Int)<=(M.length:Int))=true:=decide_eq_true (by omega)
      have e4:decide (room<=M.length)=true:=decide_eq_true (by omega)
      rw[e1] at hp
      have HP:=Lib.hid hp
      clear hp hlt2
      go_wp2_with fail
      rw[<- HU.out]
      refine HP.out.mono ?_
      rintro e w3 ⟨G,rfl,gk,gX,_,hn⟩
      have N3:=Lib.hid hn
      have OW3:=Lib.hid (OWU.out.keep gk (fun g hg=>gX g (.inr hg)))
      have B3:=Lib.hid (BU.out.keep gk (gX QB (.inl rfl)))
      obtain⟨c0,c1,c2,c3,c4,c5,c6,c7,c8,c9,c10⟩:=B3.out.c11
      rw[HQ.out] at c0 c1 c2 c3 c4 c5 c6 c7 c8 c9 c10
      clear hn gk gX HP BU NU HU OWU
      go_wp2_with fail
      refine (CK.out _ N3.out.nb).mono ?_
      rintro e w4 ⟨rfl,n4⟩
      have N4:=Lib.hid (N3.out.keep n4)
      have OW4:=Lib.hid (OW3.out.nb n4)
      have B4:=Lib.hid (B3.out.nb n4)
      clear n4 N3 CK OW3 B3 c0 c1 c2 c3 c4 c5 c6 c7 c8 c9 c10
      obtain⟨c0,c1,c2,c3,c4,c5,c6,c7,c8,c9,c10⟩:=B4.out.c11
      rw[HQ.out] at c0 c1 c2 c3 c4 c5 c6 c7 c8 c9 c10
      have B11:=Lib.hid (Blk.new w4 #[.int .i64 Kf,.int .u32 If,.bool Xf,.bool Rf,.bool Bf,.bool Ef,.bool Sf,.int .u8 Df,.int .u8 Vf,.int .u32 Af,.slice pf lf.length qf] 36)
      go_wp2_with (at_builtin;refine wpList_appF _ rfl (.tmp 76) (.tmp 78) rfl _ M rfl (OW4.out.nb (Nb.rfl.al _)) w4.heap.size ⟨Kf,If,Xf,Rf,Bf,Ef,Sf,Df,Vf,Af⟩ lf pf qf rfl (fun i hi=>(B11.out.cell i).trans (by rw[List.getElem?_toArray])) (by have:=HML.out;omega) ?_)
      intro vo w5 ho5 hk5 hf5
      have R1:=Lib.hid ho5
      have R2:=Lib.hid (RW.out.app (RowF.one (f:=⟨Kf,If,Xf,Rf,Bf,Ef,Sf,Df,Vf,Af⟩) HBW.out))
      have hs4:=N4.out.nb.size
      have R3:=Lib.hid (show ∀ g,vo.ownBlock=some g->w.heap.size<=g from fun g hg=>by
       rcases hf5 g hg with h | h
       ·exact OG.out g h
       ·omega)
      have R4:=Lib.hid (show FiX w w5 vq q1 (fun k=>vo.ownBlock=some k) from (N4.out.row (fun g hg=>⟨.inr hg,OG.out g hg⟩) hk5 hf5 (fun g hg=>R1.out.lt hg)).less (fun k hk => .inr hk))
      clear ho5 hk5 hf5 hs4
      go_wp2
      go_roundw
      case rel=>exact⟨k+1,_,q1,by omega,by go_num,by rw[List.length_append,List.length_singleton];have:=HMK.out;omega,R1.out,R2.out,R3.out,by rw[List.map_append];exact ST1.out,R4.out⟩
      case measure=>simp[intOf];omega
  ·have hlt':decide ((k:Int) < (l1.length:Int))=false:=decide_eq_false (by omega)
   obtain⟨am,cm,rfl,hag,hmc,hmx,hmn⟩:=OW.out.shape
   have hM200:M.length<=200:=by omega
   obtain⟨NM,hNM⟩:∃ n,n=min room M.length:=⟨_,rfl⟩
   have hlen:q.its.length=NM:=by rw[ST.out.len,List.length_map,hNM]
   obtain⟨OV,hOV⟩:∃ n,q.over=n:=⟨_,rfl⟩
   have hT:M.length=NM+OV:=by
    have:=ST.out.over
    rw[List.length_map] at this
    omega
   have hmin:∀ ts t w,(Builtin.min_ ts t #[.int .i64 (room:Int),.int .i64 (M.length:Int)]).run Tryd.prog w = .ok (.int .i64 (NM:Int)) w:=fun ts t w=>by
    rw[run_min2,show min (room:Int) (M.length:Int)=(NM:Int) from by omega]
   have d1:((OV:Int) != ((M.length:Int) - (NM:Int)))=false:=by rw[bne_eq_false_iff_eq];omega
   have d2:((OV:Int)==((M.length:Int) - (NM:Int)))=true:=by rw[beq_iff_eq];omega
   have hcut:∀ w,(Instr.sliceAt 30 (.slice am M.length cm) none (some (.int .i64 (NM:Int))) none).run Tryd.prog w = .ok (.slice am NM cm) w:=fun w=>run_cutFrH am M.length cm NM (by omega) w
   have hNm:(NM:Int)<=(M.length:Int):=by omega
   have HT:=Lib.hid hT
   have HNM:=Lib.hid (show NM<=room by omega)
   have HLN:=Lib.hid hlen
   have HAG:=Lib.hid hag
   have LE:=Lib.hid N.out.len
   have ov:=fun w' v (q':Fi) X (h:FiX w w' v q' X) (e:q'.over=q.over)=>h.over
   have OVR:=Lib.hid (fun w' v (q':Fi) X (h:FiX w w' v q' X) (e:q'.over=OV)=>by
    have h2:=h.over
    rw[e] at h2
    exact h2)
   have N0:=Lib.hid (show FiX w wr vq (q.off 0) (fun k=>Value.ownBlock (.slice am M.length cm)=some k) from N.out)
   have HOE:=Lib.hid hOV
   rw[hlen] at LE
   clear hT hNM hlen hOV hag ov N
   go_wp2_with fail
   refine LE.out.mono ?_
   rintro e w3 ⟨rfl,n3⟩
   have N3:=Lib.hid (N0.out.keep n3)
   have OW3:=Lib.hid (OW.out.nb n3)
   clear n3 N0 OW LE
   go_wp2_with fail
   refine (OVR.out _ _ _ _ N3.out HOE.out).mono ?_
   rintro e w4 ⟨rfl,n4⟩
   have N4:=Lib.hid (N3.out.keep n4)
   have OW4:=Lib.hid (OW3.out.nb n4)
   clear n4 N3 OW3
   go_wp2
   go_loopw [102] (fun ix wr=>∃ k:Nat,k<=NM/\ix = .int .i64 k/\OwnF wr (.slice am M.length cm) M/\FiX w wr vq (q.off k) (fun k=>Value.ownBlock (.slice am M.length cm)=some k)) (fun ix _=>NM - (intOf ix).toNat)
   case atStart=>exact⟨0,Nat.zero_le _,rfl,OW4.out,N4.out⟩
   case round =>
    obtain⟨k,hk,rfl,ho,hN⟩:=hrel
    have N:=Lib.hid hN
    have OW:=Lib.hid ho
    clear hN ho N4 OW4
    by_cases hltN:k < NM
    ·have hlt':decide ((k:Int) < (NM:Int))=true:=decide_eq_true (by omega)
     have hlt:k < (M.map Prod.fst).length:=by rw[List.length_map];omega
     obtain⟨gm,rfl⟩:=HAG.out (by omega)
     obtain⟨⟨⟨Kf,If,Xf,Rf,Bf,Ef,Sf,Df,Vf,Af⟩,lf⟩,hx⟩:∃ x,(M.map Prod.fst).getD k dF=x:=⟨_,rfl⟩
     obtain⟨pf,qf,hbw,hat⟩:=OW.out.at RW.out (by omega) hx
     have HBW:=Lib.hid hbw
     obtain⟨v0,v1,v2,v3,v4,v5,v6,v7,v8,v9,v10⟩:=hat wr Nb.rfl
     have hh:(q.off k).head=(⟨Kf,If,Xf,Rf,Bf,Ef,Sf,Df,Vf,Af⟩,lf):=by rw[Fi.off_head,ST.out.its,getD_take (by have:=HNM.out;omega),hx]
     have he:(q.off k).popE=0:=Fi.off_popE (by rw[HLN.out];exact hltN)
     clear hat hbw
     obtain⟨QB,hQ⟩:∃ Q,Q=wr.heap.size:=⟨_,rfl⟩
     obtain⟨uB,hu⟩:∃ u,u=wr.alloc (.cells #[.int .i64 Kf,.int .u32 If,.bool Xf,.bool Rf,.bool Bf,.bool Ef,.bool Sf,.int .u8 Df,.int .u8 Vf,.int .u32 Af,.slice pf lf.length qf] 36):=⟨_,rfl⟩
     have HU:=Lib.hid hu
     have HQ:=Lib.hid hQ
     have NU:=Lib.hid (show FiX w uB vq (q.off k) (fun k=>Value.ownBlock (.slice (some ⟨gm,0,none⟩) M.length cm)=some k\/k=QB) by rw[hu,hQ];exact N.out.addB _ _)
     have BU:=Lib.hid (show Blk uB QB _ _ by rw[hu,hQ];exact Blk.new _ _ _)
     have OWU:=Lib.hid (show OwnF uB _ M by rw[hu];exact OW.out.nb (Nb.rfl.al _))
     have hp:=NU.out.pop
     rw[hh,he,Fi.off_pop] at hp
     simp only[Hd.cs] at hp
     have HP:=Lib.hid hp
     clear hp hh he hx hu hQ hlt N OW
     go_wp2_with fail
     rw[<- HU.out]
     refine HP.out.mono ?_
     rintro e w5 ⟨ax,cx,Px,G,rfl,hd,_,gk,gX,gw,hn⟩
     obtain⟨QX,hQ⟩:∃ Q,Q=w5.heap.size:=⟨_,rfl⟩
     obtain⟨uX,hu⟩:∃ u,u=w5.alloc (.cells #[.int .i64 Kf,.int .u32 If,.bool Xf,.bool Rf,.bool Bf,.bool Ef,.bool Sf,.int .u8 Df,.int .u8 Vf,.int .u32 Af,.slice ax lf.length cx] 36):=⟨_,rfl⟩
     have BF:=Lib.hid (show Blk uX QB _ _ by rw[hu];exact (BU.out.keep gk (gX QB (.inr rfl))).nb (Nb.rfl.al _))
     have BX:=Lib.hid (show Blk uX QX _ _ by rw[hu,hQ];exact Blk.new _ _ _)
     have NX:=Lib.hid (show FiX w uX vq (q.off (k+1)) (fun k=>Value.ownBlock (.slice (some ⟨gm,0,none⟩) M.length cm)=some k) by rw[hu];exact (hn.keep (Nb.rfl.al _)).less (fun k hk => .inl (.inl hk)))
     have OX:=Lib.hid (show OwnF uX _ M by rw[hu];exact (OWU.out.keep gk (fun g hg=>gX g (.inl hg))).nb (Nb.rfl.al _))
     have DX:=Lib.hid (show Bs uX ax cx lf by rw[hu];exact hd.1.below (Nb.rfl.al _))
     have hbf:Bs uX pf qf lf:=HBW.out.below NX.out.nb
     have SM:=Lib.hid (same5_any ⟨Kf,If,Xf,Rf,Bf,Ef,Sf,Df,Vf,Af⟩ ⟨Kf,If,Xf,Rf,Bf,Ef,Sf,Df,Vf,Af⟩ ax pf cx qf lf lf uX DX.out hbf)
     rw[sameF_rfl] at SM
     simp only[Hd.cs] at SM
     have HUX:=Lib.hid hu
     have HQX:=Lib.hid hQ
     obtain⟨c0,c1,c2,c3,c4,c5,c6,c7,c8,c9,c10⟩:=(BU.out.keep gk (gX QB (.inr rfl))).c11
     rw[HQ.out] at c0 c1 c2 c3 c4 c5 c6 c7 c8 c9 c10
     have hqq:QB < w5.heap.size:=(BU.out.keep gk (gX QB (.inr rfl))).lt
     rw[HQ.out] at hqq
     clear hd gk gX gw hn hu hQ HP hbf NU BU
     go_wp2_with fail
     rw[<- HUX.out]
     refine SM.out.mono ?_
     rintro e w6 ⟨rfl,n6⟩
     have N6:=Lib.hid (NX.out.keep n6)
     have O6:=Lib.hid (OX.out.nb n6)
     clear n6 NX OX
     go_wp2
     go_roundw
     case rel=>exact⟨k+1,by omega,by go_num,O6.out,N6.out⟩
     case measure=>simp[intOf];omega
    ·have hlt':decide ((k:Int) < (NM:Int))=false:=decide_eq_false (by omega)
     have PO:=Lib.hid N.out.pop
     obtain⟨x1,x2⟩:=Fi.off_end (q:=q) (k:=k) (by rw[HLN.out];omega)
     rw[x1,x2,Fi.off_pop] at PO
     simp only[Hd.cs,List.length_nil] at PO
     clear x1 x2 OW
     go_wp2_with fail
     refine PO.out.mono ?_
     rintro e w5 ⟨a5,c5,P5,G5,rfl,_,_,_,_,_,hn⟩
     have N5:=Lib.hid (hn.keep (Nb.rfl.al (.cells #[.int .i64 0,.int .u32 0,.bool false,.bool false,.bool false,.bool false,.bool false,.int .u8 0,.int .u8 0,.int .u32 0,.slice a5 0 c5] 36)))
     clear hn PO N
     go_wp2_with fail
     refine (OVR.out _ _ _ _ N5.out HOE.out).mono ?_
     rintro e w6 ⟨rfl,n6⟩
     have N6:=Lib.hid (N5.out.keep n6)
     clear n6 N5
     go_wp2
     go_ret
     exact⟨rfl,N6.out.nb⟩
theorem door_met (os:Os) (args:Array Value):laidMetH Tryd.prog Rows.fifoOrdersRow.laid ((World.doorLaid Tryd.prog 14 os).forCall (fun _ _=>0) ⟨#[],args,[]⟩).memory :=
 laidMetH_of_parts3 (fuel:=8) (laidMet_of_run' 8 (by kernel_rfl) (by kernel_rfl)) (by kernel_rfl) (by kernel_rfl)
theorem lifted (os:Os) (started:os.Started) (H:Type) (enc:TypeId × Value->H) :
    ReturnsInHanded {} Tryd.checked os 4 .any (fun w args=>(Rows.fifoOrdersSpec.pre enc Tryd.prog Tryd.f4 [] false w args/\laidMetH Tryd.prog Rows.fifoOrdersRow.laid w)/\sizedMet enc Tryd.prog Tryd.f4 (OpenSpec.ofChange Rows.fifoOrdersSpec) false w args)
     (Rows.fifoOrdersSpec.post enc Tryd.prog Tryd.f4 false true false false):=by
 refine returnsInHanded_of_change_and (C:=Tryd.checked) (X:=fun w _=>laidMetH Tryd.prog Rows.fifoOrdersRow.laid w) (fun _ _ _ hh h=>h.of_heap hh) own started (by kernel_rfl) Tryd.func4
  (ChangeSpec.witness_shaped (enc:=enc) (C:=Tryd.checked) (os:=os) (X:=fun w _=>laidMetH Tryd.prog Rows.fifoOrdersRow.laid w) false (World.doorLaid Tryd.prog 14 os) #[.int .i64 0,.slice none 0 0] 8 rfl (World.shaped_of_RefB (by kernel_rfl) (by kernel_rfl)) (by kernel_rfl) (by kernel_rfl) (by kernel_rfl) (door_met os _)) ?_
 intro W base args ds gs before hval0 hW _ hR hL _
 have hval:∀ (j:Nat) t v,Tryd.f4.params[j]? = some t->args[j]? = some v->Value.okWide Tryd.prog W .any base t v:=hval0
 have hW':=hW
 obtain⟨p,q,hA0,hV,rfl,hfz,hnd⟩:=hW
 have hA:DataW.TrodAll enc Tryd.prog W 0 (fun _=>true) true Tryd.f4.params.toList args.toList ds p:=hA0
 rw[Tryd.params4] at hA hval
 obtain⟨v0,vs0,d0,ds0,p0,q0,hargs,rfl,rfl,h0,r0⟩:=trodAll_cons hA
 obtain⟨v1,vs1,d1,ds1,p1,q1,rfl,rfl,rfl,h1,r1⟩:=trodAll_cons r0
 obtain⟨rfl,rfl,rfl⟩:=trodAll_nil r1
 obtain rfl:args=#[v0,v1]:=by cases args;simp_all
 obtain⟨rfl,rfl⟩:=trodVars_none hV
 have k0:=h0
 have lt0:∀ x∈p0,x.block < W.heap.size:=by obtain⟨m,hm⟩:=k0;exact DataW.trod_lt m _ _ _ hm
 have k1:=h1
 have lt1:∀ x∈p1,x.block < W.heap.size:=by obtain⟨m,hm⟩:=k1;exact DataW.trod_lt m _ _ _ hm
 clear hA0
 obtain⟨a0,rfl,rfl,rfl,w0⟩:=open_int Tryd.underlying3 (hval 0 3 v0 rfl rfl) h0
 obtain⟨a1,lc1,cap1,rfl⟩:=okWide_slice Tryd.underlying30 (hval 1 30 v1 rfl rfl)
 obtain⟨fu1,hf1⟩:=h1
 have hc1:DataW.trod enc Tryd.prog W 0 (fun _=>true) true fu1 30 [.slice a1 lc1 cap1]=some (d1,p1):=hf1
 obtain⟨b1,cb1,l1,e1,hb1,n1⟩:=frames_opn hc1
 simp only[Value.slice.injEq] at e1
 obtain⟨rfl,rfl,rfl⟩:=e1
 refine (walk W (longer_of hL) a0 w0 a1 cap1 l1 hb1 n1).mono fun e W' ⟨he,bel⟩ => ?_
 subst he
 exact⟨_,rfl,_,_,_,[],_,[],hW',trodAll_mk1 (shut_bool Tryd.underlying4 _),(trodAll_cons_mk (Below.trod laidOut (by kernel_rfl) (of_decide_eq_true (by kernel_rfl)) k0 bel lt0) (trodAll_cons_mk (Below.trod laidOut (by kernel_rfl) (of_decide_eq_true (by kernel_rfl)) k1 bel lt1) trodAll_mk0)),rfl,bel.frame _,fun h=>by cases h⟩
theorem over:Rows.fifoOrdersRow.holds Tryd.pinned (OpenSpec.ofChange Rows.fifoOrdersSpec) :=
 OpenClaim.holds_of_wide 4 Tryd.f4 rfl rfl rfl rfl rfl rfl rfl ⟨rfl,rfl,rfl,rfl,rfl⟩ rfl rfl rfl rfl rfl (by kernel_rfl) Tryd.func4 (by kernel_rfl)
  (of_decide_eq_true (by kernel_rfl)) (by unfold Func.isWrapper;first | (rw[if_pos (by decide +kernel)];kernel_rfl) | (rw[if_neg (by decide +kernel)];exact⟨rfl,rfl⟩))
  (fun os started H enc _=>lifted os started H enc)
theorem plain (f : FuncId) (fn : Func) (hf : Tryd.pinned.checked.prog.funcNamed "omnibus/omnibuslaw16.FifoOrders" = some f) (hfn : Tryd.pinned.checked.prog.funcs[f]? = some fn) :
    false=Tryd.pinned.checked.prog.looks []/\∀ (j:Nat) t,fn.params[j]? = some t->Tryd.pinned.checked.prog.wantsStandIn t=false:=by
 obtain rfl : f = 4 := Option.some.inj ((show Tryd.prog.funcNamed "omnibus/omnibuslaw16.FifoOrders" = some 4 by kernel_rfl).symm.trans hf) |>.symm
 obtain rfl:fn=Tryd.f4:=(Option.some.inj (Tryd.func4.symm.trans hfn)).symm
 refine⟨by kernel_rfl,fun j t ht => ?_⟩
 rw[Tryd.params4] at ht
 have hm:t∈[3,30]:=by have:=Array.mem_of_getElem? ht;simp at this ⊢;omega
 have hall:([3,30].all fun u => !Tryd.prog.wantsStandIn u)=true:=by kernel_rfl
 exact (show Tryd.prog.wantsStandIn t=false by simpa using List.all_eq_true.1 hall t hm)
theorem proved:Rows.FifoOrdersCardSaid :=
 Claim7.holds_tied_plain_at .later [] _ _ _ _ over (fun _ h=>by cases h) (by kernel_rfl) (fun _ h=>by cases h) fifoOrders_row_tie rfl ⟨rfl,rfl⟩ (by kernel_rfl) rfl plain (by kernel_rfl)
#print axioms proved
end Go.Proofs.YtlmbggmamemmjaaDoor.fifoOrders
