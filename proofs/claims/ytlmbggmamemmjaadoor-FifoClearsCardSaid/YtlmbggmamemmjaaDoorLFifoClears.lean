/- For every number of places and all frames the law FifoClears answers true and leaves its arguments as they were; the package's table of longer sizes is tied to the program's text. No conditions. -/
import Derived.Test.YtlmbggmamemmjaaDoorRows
import Derived.Test.YtlmbggmamemmjaaDoorCards
import Derived.Test.YtlmbggmamemmjaaDoorTie
import Derived.Test.YtlmbggmamemmjaaDoorFiA
import Derived.Test.YtlmbggmamemmjaaDoorFiW
import Derived.Test.YtlmbggmamemmjaaDoorFiS
import Derived.Test.YtlmbggmamemmjaaDoorOrO
import Derived.Test.YtlmbggmamemmjaaDoorGe
import Derived.Test.YtlmbggmamemmjaaDoorGa
import Derived.WalkKit
import Derived.ProofKit
import Derived.OpenShut
import Derived.ShutString
import Derived.ChangeOld
import Derived.Below
import Derived.Carry
import Derived.Lib.SmallJoins
import Derived.Deep.RegionWith
import Derived.Deep.RegionHeld3
import Derived.LaidMore
import Derived.LaidLaws
import Derived.Stop.Joined
import Derived.SevenTiedAt
set_option maxHeartbeats 8000000
set_option maxRecDepth 100000
namespace Go.Proofs.YtlmbggmamemmjaaDoor.fifoClears
open Go.ChangeShapes Go.WideShapes Go.ChangeAt Go.RowKit Go.Joins
set_option linter.unusedVariables false
set_option linter.unusedSimpArgs false
theorem own:ownKnob Tryd.prog.godebug=none:=by kernel_rfl
theorem laidOut:laidOutB Tryd.prog=true:=by kernel_rfl
theorem walk (w:World) (hK:Longer w) (a0:Int) (w0:(Lit.int .i64 a0).wf=true) (a1:Option Addr) (cap1:Nat) (l1:List (Hd × List Nat)) (h1:FrsAt w a1 cap1 l1) (n1:a1=none->cap1=0) (a2:Option Addr) (cap2:Nat) (l2:List (Hd × List Nat)) (h2:FrsAt w a2 cap2 l2) (n2:a2=none->cap2=0) :
    Calls Tryd.prog 7 #[.int .i64 a0,.slice a1 l1.length cap1,.slice a2 l2.length cap2] w fun e w'=>e = .returned (.bool true)/\Nb w w':=by
 have HK:=Lib.hid hK
 have HF1:=Lib.hid h1.rd
 have HF2:=Lib.hid h2.rd
 have AL:=Lib.hid (fun w' (n:Nb w w')=>alive16_any w' (hK.below n))
 have hL1:=h1.len
 have hL2:=h2.len
 clear hK h1 n1 h2 n2
 by_cases hr:a0 < 0\/64 < a0
 ·clear w0
  have NEW:=Lib.hid (fun w'=>newF_bad a0 hr w')
  clear hr
  go_enter Tryd.func7,Tryd.ntmps7
  go_wp2_with fail
  refine (AL.out _ Nb.rfl).mono ?_
  rintro e w1 ⟨rfl,n1⟩
  have K1:=Lib.hid n1
  clear n1
  go_wp2_with fail
  refine (NEW.out _).mono ?_
  rintro e w2 ⟨rfl,n2⟩
  have K2:=Lib.hid (K1.out.tr n2)
  clear n2
  go_wp2_with fail
  refine (NEW.out _).mono ?_
  rintro e w3 ⟨rfl,n3⟩
  have K3:=Lib.hid (K2.out.tr n3)
  clear n3 K2
  go_wp2
  go_ret
  exact⟨rfl,K3.out⟩
 obtain⟨room,rfl⟩:∃ r:Nat,a0=(r:Int):=⟨a0.toNat,by omega⟩
 have hr64:room<=64:=by omega
 clear hr w0
 by_cases hbig:100 < l1.length
 ·have d0:decide ((100:Int) < (l1.length:Int))=true:=decide_eq_true (by omega)
  clear hbig
  go_enter Tryd.func7,Tryd.ntmps7
  go_wp2_with fail
  refine (AL.out _ Nb.rfl).mono ?_
  rintro e w1 ⟨rfl,n1⟩
  have K1:=Lib.hid n1
  clear n1
  go_wp2_with fail
  refine (newF_any room hr64 _).mono ?_
  rintro e w2 ⟨R,F,rfl,g1,g2,g3⟩
  have G1:=Lib.hid g1
  have G2:=Lib.hid g2
  have G3:=Lib.hid g3
  clear g1 g2 g3
  go_wp2_with fail
  refine (newF_any room hr64 _).mono ?_
  rintro e w3 ⟨R',F',rfl,g1,g2,g3⟩
  have N3:=Lib.hid (TwoF.new K1.out G1.out G2.out G3.out g1 g2 g3)
  generalize Value.pointer (some ⟨R,0,none⟩)=vq at *
  generalize Value.pointer (some ⟨R',0,none⟩)=vo at *
  clear g1 g2 g3 G1 G2 G3
  go_wp2
  go_ret
  exact⟨rfl,N3.out.nb⟩
 have d0:decide ((100:Int) < (l1.length:Int))=false:=decide_eq_false (by omega)
 have hle1:l1.length<=100:=by omega
 clear hbig
 by_cases hbig:100 < l2.length
 ·have e0:decide ((100:Int) < (l2.length:Int))=true:=decide_eq_true (by omega)
  clear hbig
  go_enter Tryd.func7,Tryd.ntmps7
  go_wp2_with fail
  refine (AL.out _ Nb.rfl).mono ?_
  rintro e w1 ⟨rfl,n1⟩
  have K1:=Lib.hid n1
  clear n1
  go_wp2_with fail
  refine (newF_any room hr64 _).mono ?_
  rintro e w2 ⟨R,F,rfl,g1,g2,g3⟩
  have G1:=Lib.hid g1
  have G2:=Lib.hid g2
  have G3:=Lib.hid g3
  clear g1 g2 g3
  go_wp2_with fail
  refine (newF_any room hr64 _).mono ?_
  rintro e w3 ⟨R',F',rfl,g1,g2,g3⟩
  have N3:=Lib.hid (TwoF.new K1.out G1.out G2.out G3.out g1 g2 g3)
  generalize Value.pointer (some ⟨R,0,none⟩)=vq at *
  generalize Value.pointer (some ⟨R',0,none⟩)=vo at *
  clear g1 g2 g3 G1 G2 G3
  go_wp2
  go_ret
  exact⟨rfl,N3.out.nb⟩
 have e0:decide ((100:Int) < (l2.length:Int))=false:=decide_eq_false (by omega)
 have hle2:l2.length<=100:=by omega
 clear hbig
 go_enter Tryd.func7,Tryd.ntmps7
 go_wp2_with fail
 refine (AL.out _ Nb.rfl).mono ?_
 rintro e w1 ⟨rfl,n1⟩
 have K1:=Lib.hid n1
 clear n1
 go_wp2_with fail
 refine (newF_any room hr64 _).mono ?_
 rintro e w2 ⟨R,F,rfl,g1,g2,g3⟩
 have G1:=Lib.hid g1
 have G2:=Lib.hid g2
 have G3:=Lib.hid g3
 clear g1 g2 g3
 go_wp2_with fail
 refine (newF_any room hr64 _).mono ?_
 rintro e w3 ⟨R',F',rfl,g1,g2,g3⟩
 have N3:=Lib.hid (TwoF.new K1.out G1.out G2.out G3.out g1 g2 g3)
 generalize Value.pointer (some ⟨R,0,none⟩)=vq at *
 generalize Value.pointer (some ⟨R',0,none⟩)=vo at *
 clear g1 g2 g3 G1 G2 G3
 go_wp2
 go_loopw [53] (fun ix wr=>∃ (k:Nat) (q:Fi),k<=l1.length/\ix = .int .i64 k/\q.over<=k/\q.room=room/\TwoF w wr vq vo q ⟨room,0,[]⟩ noF) (fun ix _=>l1.length - (intOf ix).toNat)
 case atStart=>exact⟨0,⟨room,0,[]⟩,Nat.zero_le _,rfl,Nat.le_refl _,rfl,N3.out⟩
 case round =>
  obtain⟨k,q,hk,rfl,hov,hrm,hN⟩:=hrel
  have N:=Lib.hid hN
  have HRM:=Lib.hid hrm
  clear hN N3 hrm
  by_cases hlt:k < l1.length
  ·have hlt':decide ((k:Int) < (l1.length:Int))=true:=decide_eq_true (by omega)
   obtain⟨⟨⟨Kf,If,Xf,Rf,Bf,Ef,Sf,Df,Vf,Af⟩,lf⟩,hx⟩:∃ x,l1.getD k dF=x:=⟨_,rfl⟩
   obtain⟨bf,of,rfl,-⟩:=HF1.out.hcells (by omega)
   obtain⟨pf,qf,hat⟩:=HF1.out.at hlt hx
   have AT:=Lib.hid hat
   obtain⟨⟨v0,v1,v2,v3,v4,v5,v6,v7,v8,v9,v10⟩,_⟩:=AT.out wr (N.out.nb)
   clear hat
   obtain⟨QB,hQ⟩:∃ Q,Q=wr.heap.size:=⟨_,rfl⟩
   obtain⟨uB,hu⟩:∃ u,u=wr.alloc (.cells #[.int .i64 Kf,.int .u32 If,.bool Xf,.bool Rf,.bool Bf,.bool Ef,.bool Sf,.int .u8 Df,.int .u8 Vf,.int .u32 Af,.slice pf lf.length qf] 36):=⟨_,rfl⟩
   have HU:=Lib.hid hu
   have HQ:=Lib.hid hQ
   have NU:=Lib.hid (show TwoF w uB vq vo q ⟨room,0,[]⟩ noF by rw[hu];exact N.out.keep (Nb.rfl.al _))
   have hp:=NU.out.push ⟨Kf,If,Xf,Rf,Bf,Ef,Sf,Df,Vf,Af⟩ pf qf lf (HK.out.below NU.out.nb) (AT.out _ NU.out.nb).2 (by omega)
   have HO:=Lib.hid (show (q.push ⟨Kf,If,Xf,Rf,Bf,Ef,Sf,Df,Vf,Af⟩ lf).over<=k+1 from Nat.le_trans (Fi.push_over _ _ _) (by omega))
   have HR2:=Lib.hid (show (q.push ⟨Kf,If,Xf,Rf,Bf,Ef,Sf,Df,Vf,Af⟩ lf).room=room by rw[Fi.push_room];exact HRM.out)
   simp only[Hd.cs] at hp
   generalize q.push ⟨Kf,If,Xf,Rf,Bf,Ef,Sf,Df,Vf,Af⟩ lf=q1 at *
   generalize q.pushB ⟨Kf,If,Xf,Rf,Bf,Ef,Sf,Df,Vf,Af⟩ lf=pb at *
   generalize checkN ⟨Kf,If,Xf,Rf,Bf,Ef,Sf,Df,Vf,Af⟩ lf=ck at *
   have HP:=Lib.hid hp
   clear hp hx hu hQ N AT hov
   go_wp2_with fail
   rw[<- HU.out]
   refine HP.out.mono ?_
   rintro e w3 ⟨G,rfl,_,_,hn⟩
   have N3:=Lib.hid hn
   clear hn HP NU HU
   go_wp2
   go_roundw
   case rel=>exact⟨k+1,q1,by omega,by go_num,HO.out,HR2.out,N3.out⟩
   case measure=>simp[intOf];omega
  ·have hlt':decide ((k:Int) < (l1.length:Int))=false:=decide_eq_false (by omega)
   go_wp2_with fail
   refine N.out.all.mono ?_
   rintro e w4 ⟨aA,cA,P4,rfl,hfr,_,n4,hn⟩
   have N4:=Lib.hid (hn.less (Y:=P4) (fun k hk => .inr hk))
   have FR4:=Lib.hid hfr
   clear hfr n4 hn N
   go_wp2_with fail
   refine N4.out.clear.mono ?_
   rintro e w5 ⟨aC,cC,P5,K5,rfl,hf5,k5,gX,hn⟩
   have N5:=Lib.hid (show TwoF w w5 vq vo ⟨room,0,[]⟩ ⟨room,0,[]⟩ noF by have h:=hn.less (Y:=noF) (fun k hk=>hk.elim);unfold Fi.clear at h;rw[HRM.out] at h;exact h)
   have SM:=Lib.hid (sames16_any q.its aC aA cC cA w5 hf5.rd (FR4.out.keep k5 gX).rd)
   clear hf5 k5 gX hn N4 FR4
   go_wp2_with fail
   refine SM.out.mono ?_
   rintro e w6 ⟨rfl,n6⟩
   have N6:=Lib.hid (N5.out.keep n6)
   clear n6 N5 SM
   have LE:=Lib.hid (fun w' (h:TwoF w w' vq vo ⟨room,0,[]⟩ ⟨room,0,[]⟩ noF)=>h.len)
   have OV:=Lib.hid (fun w' (h:TwoF w w' vq vo ⟨room,0,[]⟩ ⟨room,0,[]⟩ noF)=>h.over)
   have AA:=Lib.hid (fun w' (h:TwoF w w' vq vo ⟨room,0,[]⟩ ⟨room,0,[]⟩ noF)=>h.all)
   simp only[List.length_nil] at LE OV AA
   go_wp2_with fail
   refine (LE.out _ N6.out).mono ?_
   rintro e w7 ⟨rfl,n7⟩
   have N7:=Lib.hid (N6.out.keep n7)
   clear n7 N6 LE
   go_wp2_with fail
   refine (OV.out _ N7.out).mono ?_
   rintro e w8 ⟨rfl,n8⟩
   have N8:=Lib.hid (N7.out.keep n8)
   clear n8 N7 OV
   go_wp2_with fail
   refine (AA.out _ N8.out).mono ?_
   rintro e w9 ⟨aA,cA,P4,rfl,_,_,n9,_⟩
   have N9:=Lib.hid (N8.out.keep n9)
   clear n9 N8 AA
   go_wp2
   go_loopw [86] (fun ix wr=>∃ (k:Nat) (q:Fi),k<=l2.length/\ix = .int .i64 k/\q.over<=k/\TwoF w wr vq vo q q noF) (fun ix _=>l2.length - (intOf ix).toNat)
   case atStart=>exact⟨0,⟨room,0,[]⟩,Nat.zero_le _,rfl,Nat.le_refl _,N9.out⟩
   case round =>
    obtain⟨k,q,hk,rfl,hov,hN⟩:=hrel
    have N:=Lib.hid hN
    clear hN N9 HRM
    by_cases hlt2:k < l2.length
    ·have hlt:=hlt2
     have hlt':decide ((k:Int) < (l2.length:Int))=true:=decide_eq_true (by omega)
     obtain⟨⟨⟨Kf,If,Xf,Rf,Bf,Ef,Sf,Df,Vf,Af⟩,lf⟩,hx⟩:∃ x,l2.getD k dF=x:=⟨_,rfl⟩
     obtain⟨bf,of,rfl,-⟩:=HF2.out.hcells (by omega)
     obtain⟨pf,qf,hat⟩:=HF2.out.at hlt hx
     have AT:=Lib.hid hat
     obtain⟨⟨v0,v1,v2,v3,v4,v5,v6,v7,v8,v9,v10⟩,_⟩:=AT.out wr (N.out.nb)
     clear hat
     obtain⟨QB,hQ⟩:∃ Q,Q=wr.heap.size:=⟨_,rfl⟩
     obtain⟨uB,hu⟩:∃ u,u=wr.alloc (.cells #[.int .i64 Kf,.int .u32 If,.bool Xf,.bool Rf,.bool Bf,.bool Ef,.bool Sf,.int .u8 Df,.int .u8 Vf,.int .u32 Af,.slice pf lf.length qf] 36):=⟨_,rfl⟩
     have HU:=Lib.hid hu
     have HQ:=Lib.hid hQ
     have NU:=Lib.hid (show TwoF w uB vq vo q q (fun k=>k=QB) by rw[hu,hQ];exact (N.out.addB _ _).less (fun k hk => .inr hk))
     have BU:=Lib.hid (show Blk uB QB _ _ by rw[hu,hQ];exact Blk.new _ _ _)
     have hp:=NU.out.push ⟨Kf,If,Xf,Rf,Bf,Ef,Sf,Df,Vf,Af⟩ pf qf lf (HK.out.below NU.out.nb) (AT.out _ NU.out.nb).2 (by omega)
     have hp2:=fun w' (h:TwoF w w' vq vo (q.push ⟨Kf,If,Xf,Rf,Bf,Ef,Sf,Df,Vf,Af⟩ lf) q (fun k=>k=QB))=>h.swap.push ⟨Kf,If,Xf,Rf,Bf,Ef,Sf,Df,Vf,Af⟩ pf qf lf (HK.out.below h.nb) (AT.out _ h.nb).2 (by omega)
     have HO:=Lib.hid (show (q.push ⟨Kf,If,Xf,Rf,Bf,Ef,Sf,Df,Vf,Af⟩ lf).over<=k+1 from Nat.le_trans (Fi.push_over _ _ _) (by omega))
     simp only[Hd.cs] at hp hp2
     generalize q.push ⟨Kf,If,Xf,Rf,Bf,Ef,Sf,Df,Vf,Af⟩ lf=q1 at *
     generalize q.pushB ⟨Kf,If,Xf,Rf,Bf,Ef,Sf,Df,Vf,Af⟩ lf=pb at *
     generalize checkN ⟨Kf,If,Xf,Rf,Bf,Ef,Sf,Df,Vf,Af⟩ lf=ck at *
     have HP:=Lib.hid hp
     have HP2:=Lib.hid hp2
     clear hp hp2 hx hu hQ N AT hov
     go_wp2_with fail
     rw[<- HU.out]
     refine HP.out.mono ?_
     rintro e w3 ⟨G,rfl,gk,gX,hn⟩
     have N3:=Lib.hid hn
     obtain⟨c0,c1,c2,c3,c4,c5,c6,c7,c8,c9,c10⟩:=(BU.out.keep gk (gX QB rfl)).c11
     rw[HQ.out] at c0 c1 c2 c3 c4 c5 c6 c7 c8 c9 c10
     clear hn gk gX HP NU HU BU
     go_wp2_with fail
     refine (HP2.out _ N3.out).mono ?_
     rintro e w4 ⟨G,rfl,_,_,hn⟩
     have N4:=Lib.hid (hn.swap.less (Y:=noF) (fun k hk=>hk.elim))
     clear hn N3 HP2 c0 c1 c2 c3 c4 c5 c6 c7 c8 c9 c10
     go_wp2
     go_roundw
     case rel=>exact⟨k+1,q1,by omega,by go_num,HO.out,N4.out⟩
     case measure=>simp[intOf];omega
    ·have hlt2':decide ((k:Int) < (l2.length:Int))=false:=decide_eq_false (by omega)
     go_wp2_with fail
     refine N.out.all.mono ?_
     rintro e w3 ⟨a3,c3,P3,rfl,hf3,_,_,hn⟩
     have N3:=Lib.hid (hn.less (Y:=noF) (fun k hk=>hk.elim))
     have FR3:=Lib.hid hf3.rd
     clear hn hf3 N
     go_wp2_with fail
     refine N3.out.swap.all.mono ?_
     rintro e w4 ⟨a4,c4,P4,rfl,hf4,_,n4,hn⟩
     have N4:=Lib.hid (hn.swap.less (Y:=noF) (fun k hk=>hk.elim))
     have SM:=Lib.hid (sames16_any q.its a3 a4 c3 c4 w4 (FR3.out.nb n4) hf4.rd)
     clear hn hf4 n4 N3 FR3
     go_wp2_with fail
     refine SM.out.mono ?_
     rintro e w5 ⟨rfl,n5⟩
     have N5:=Lib.hid (N4.out.keep n5)
     clear n5 N4 SM
     go_wp2_with fail
     refine N5.out.over.mono ?_
     rintro e w6 ⟨rfl,n6⟩
     have N6:=Lib.hid (N5.out.keep n6)
     clear n6 N5
     go_wp2_with fail
     refine N6.out.swap.over.mono ?_
     rintro e w7 ⟨rfl,n7⟩
     have N7:=Lib.hid (N6.out.keep n7)
     clear n7 N6
     go_wp2
     go_ret
     exact⟨rfl,N7.out.nb⟩
theorem door_met (os:Os) (args:Array Value):laidMetH Tryd.prog Rows.fifoClearsRow.laid ((World.doorLaid Tryd.prog 14 os).forCall (fun _ _=>0) ⟨#[],args,[]⟩).memory :=
 laidMetH_of_parts3 (fuel:=8) (laidMet_of_run' 8 (by kernel_rfl) (by kernel_rfl)) (by kernel_rfl) (by kernel_rfl)
theorem lifted (os:Os) (started:os.Started) (H:Type) (enc:TypeId × Value->H) :
    ReturnsInHanded {} Tryd.checked os 7 .any (fun w args=>(Rows.fifoClearsSpec.pre enc Tryd.prog Tryd.f7 [] false w args/\laidMetH Tryd.prog Rows.fifoClearsRow.laid w)/\sizedMet enc Tryd.prog Tryd.f7 (OpenSpec.ofChange Rows.fifoClearsSpec) false w args)
     (Rows.fifoClearsSpec.post enc Tryd.prog Tryd.f7 false true false false):=by
 refine returnsInHanded_of_change_and (C:=Tryd.checked) (X:=fun w _=>laidMetH Tryd.prog Rows.fifoClearsRow.laid w) (fun _ _ _ hh h=>h.of_heap hh) own started (by kernel_rfl) Tryd.func7
  (ChangeSpec.witness_shaped (enc:=enc) (C:=Tryd.checked) (os:=os) (X:=fun w _=>laidMetH Tryd.prog Rows.fifoClearsRow.laid w) false (World.doorLaid Tryd.prog 14 os) #[.int .i64 0,.slice none 0 0,.slice none 0 0] 8 rfl (World.shaped_of_RefB (by kernel_rfl) (by kernel_rfl)) (by kernel_rfl) (by kernel_rfl) (by kernel_rfl) (door_met os _)) ?_
 intro W base args ds gs before hval0 hW _ hR hL _
 have hval:∀ (j:Nat) t v,Tryd.f7.params[j]? = some t->args[j]? = some v->Value.okWide Tryd.prog W .any base t v:=hval0
 have hW':=hW
 obtain⟨p,q,hA0,hV,rfl,hfz,hnd⟩:=hW
 have hA:DataW.TrodAll enc Tryd.prog W 0 (fun _=>true) true Tryd.f7.params.toList args.toList ds p:=hA0
 rw[Tryd.params7] at hA hval
 obtain⟨v0,vs0,d0,ds0,p0,q0,hargs,rfl,rfl,h0,r0⟩:=trodAll_cons hA
 obtain⟨v1,vs1,d1,ds1,p1,q1,rfl,rfl,rfl,h1,r1⟩:=trodAll_cons r0
 obtain⟨v2,vs2,d2,ds2,p2,q2,rfl,rfl,rfl,h2,r2⟩:=trodAll_cons r1
 obtain⟨rfl,rfl,rfl⟩:=trodAll_nil r2
 obtain rfl:args=#[v0,v1,v2]:=by cases args;simp_all
 obtain⟨rfl,rfl⟩:=trodVars_none hV
 have k0:=h0
 have lt0:∀ x∈p0,x.block < W.heap.size:=by obtain⟨m,hm⟩:=k0;exact DataW.trod_lt m _ _ _ hm
 have k1:=h1
 have lt1:∀ x∈p1,x.block < W.heap.size:=by obtain⟨m,hm⟩:=k1;exact DataW.trod_lt m _ _ _ hm
 have k2:=h2
 have lt2:∀ x∈p2,x.block < W.heap.size:=by obtain⟨m,hm⟩:=k2;exact DataW.trod_lt m _ _ _ hm
 clear hA0
 obtain⟨a0,rfl,rfl,rfl,w0⟩:=open_int Tryd.underlying3 (hval 0 3 v0 rfl rfl) h0
 obtain⟨a1,lc1,cap1,rfl⟩:=okWide_slice Tryd.underlying30 (hval 1 30 v1 rfl rfl)
 obtain⟨fu1,hf1⟩:=h1
 have hc1:DataW.trod enc Tryd.prog W 0 (fun _=>true) true fu1 30 [.slice a1 lc1 cap1]=some (d1,p1):=hf1
 obtain⟨b1,cb1,l1,e1,hb1,n1⟩:=frames_opn hc1
 simp only[Value.slice.injEq] at e1
 obtain⟨rfl,rfl,rfl⟩:=e1
 obtain⟨a2,lc2,cap2,rfl⟩:=okWide_slice Tryd.underlying30 (hval 2 30 v2 rfl rfl)
 obtain⟨fu2,hf2⟩:=h2
 have hc2:DataW.trod enc Tryd.prog W 0 (fun _=>true) true fu2 30 [.slice a2 lc2 cap2]=some (d2,p2):=hf2
 obtain⟨b2,cb2,l2,e2,hb2,n2⟩:=frames_opn hc2
 simp only[Value.slice.injEq] at e2
 obtain⟨rfl,rfl,rfl⟩:=e2
 refine (walk W (longer_of hL) a0 w0 a1 cap1 l1 hb1 n1 a2 cap2 l2 hb2 n2).mono fun e W' ⟨he,bel⟩ => ?_
 subst he
 exact⟨_,rfl,_,_,_,[],_,[],hW',trodAll_mk1 (shut_bool Tryd.underlying4 _),(trodAll_cons_mk (Below.trod laidOut (by kernel_rfl) (of_decide_eq_true (by kernel_rfl)) k0 bel lt0) (trodAll_cons_mk (Below.trod laidOut (by kernel_rfl) (of_decide_eq_true (by kernel_rfl)) k1 bel lt1) (trodAll_cons_mk (Below.trod laidOut (by kernel_rfl) (of_decide_eq_true (by kernel_rfl)) k2 bel lt2) trodAll_mk0))),rfl,bel.frame _,fun h=>by cases h⟩
theorem over:Rows.fifoClearsRow.holds Tryd.pinned (OpenSpec.ofChange Rows.fifoClearsSpec) :=
 OpenClaim.holds_of_wide 7 Tryd.f7 rfl rfl rfl rfl rfl rfl rfl ⟨rfl,rfl,rfl,rfl,rfl⟩ rfl rfl rfl rfl rfl (by kernel_rfl) Tryd.func7 (by kernel_rfl)
  (of_decide_eq_true (by kernel_rfl)) (by unfold Func.isWrapper;first | (rw[if_pos (by decide +kernel)];kernel_rfl) | (rw[if_neg (by decide +kernel)];exact⟨rfl,rfl⟩))
  (fun os started H enc _=>lifted os started H enc)
theorem plain (f : FuncId) (fn : Func) (hf : Tryd.pinned.checked.prog.funcNamed "omnibus/omnibuslaw16.FifoClears" = some f) (hfn : Tryd.pinned.checked.prog.funcs[f]? = some fn) :
    false=Tryd.pinned.checked.prog.looks []/\∀ (j:Nat) t,fn.params[j]? = some t->Tryd.pinned.checked.prog.wantsStandIn t=false:=by
 obtain rfl : f = 7 := Option.some.inj ((show Tryd.prog.funcNamed "omnibus/omnibuslaw16.FifoClears" = some 7 by kernel_rfl).symm.trans hf) |>.symm
 obtain rfl:fn=Tryd.f7:=(Option.some.inj (Tryd.func7.symm.trans hfn)).symm
 refine⟨by kernel_rfl,fun j t ht => ?_⟩
 rw[Tryd.params7] at ht
 have hm:t∈[3,30]:=by have:=Array.mem_of_getElem? ht;simp at this ⊢;omega
 have hall:([3,30].all fun u => !Tryd.prog.wantsStandIn u)=true:=by kernel_rfl
 exact (show Tryd.prog.wantsStandIn t=false by simpa using List.all_eq_true.1 hall t hm)
theorem proved:Rows.FifoClearsCardSaid :=
 Claim7.holds_tied_plain_at .later [] _ _ _ _ over (fun _ h=>by cases h) (by kernel_rfl) (fun _ h=>by cases h) fifoClears_row_tie rfl ⟨rfl,rfl⟩ (by kernel_rfl) rfl plain (by kernel_rfl)
#print axioms proved
end Go.Proofs.YtlmbggmamemmjaaDoor.fifoClears
