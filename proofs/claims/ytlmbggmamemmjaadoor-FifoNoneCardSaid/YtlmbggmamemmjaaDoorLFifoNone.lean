/- For all frames the law FifoNone answers true and leaves its argument as it was; the package's table of longer sizes is tied to the program's text. No conditions. -/
import Derived.Test.YtlmbggmamemmjaaDoorRows
import Derived.Test.YtlmbggmamemmjaaDoorCards
import Derived.Test.YtlmbggmamemmjaaDoorTie
import Derived.Test.YtlmbggmamemmjaaDoorFiA
import Derived.Test.YtlmbggmamemmjaaDoorOrO
import Derived.Test.YtlmbggmamemmjaaDoorGe
import Derived.Test.YtlmbggmamemmjaaDoorGa
import Derived.WalkKit
import Derived.ProofKit
import Derived.OpenShut
import Derived.ShutString
import Derived.ChangeOld
import Derived.Below
import Derived.Carry
import Derived.Lib.SmallJoins
import Derived.Deep.RegionWith
import Derived.Deep.RegionHeld3
import Derived.LaidMore
import Derived.LaidLaws
import Derived.Stop.Joined
import Derived.SevenTiedAt
set_option maxHeartbeats 8000000
set_option maxRecDepth 100000
namespace Go.Proofs.YtlmbggmamemmjaaDoor.fifoNone
open Go.ChangeShapes Go.WideShapes Go.ChangeAt Go.RowKit Go.Joins
set_option linter.unusedVariables false
set_option linter.unusedSimpArgs false
theorem own:ownKnob Tryd.prog.godebug=none:=by kernel_rfl
theorem laidOut:laidOutB Tryd.prog=true:=by kernel_rfl
theorem walk (w:World) (hK:Longer w) (a0:Option Addr) (cap0:Nat) (l0:List (Hd × List Nat)) (h0:FrsAt w a0 cap0 l0) (n0:a0=none->cap0=0) :
    Calls Tryd.prog 8 #[.slice a0 l0.length cap0] w fun e w'=>e = .returned (.bool true)/\Nb w w':=by
 have HK:=Lib.hid hK
 have HFR:=Lib.hid h0.rd
 have AL:=Lib.hid (fun w' (n:Nb w w')=>alive16_any w' (hK.below n))
 have hL0:=h0.len
 clear hK h0 n0
 by_cases hbig:200 < l0.length
 ·have d0:decide ((200:Int) < (l0.length:Int))=true:=decide_eq_true (by omega)
  clear hbig
  go_enter Tryd.func8,Tryd.ntmps8
  go_wp2_with fail
  refine (AL.out _ Nb.rfl).mono ?_
  rintro e w1 ⟨rfl,n1⟩
  have K1:=Lib.hid n1
  clear n1
  go_wp2_with fail
  refine (newF_any 0 (by omega) _).mono ?_
  rintro e w2 ⟨R,F,rfl,g1,g2,g3⟩
  have K2:=Lib.hid (K1.out.tr g3)
  clear g1 g2 g3
  go_wp2
  go_ret
  exact⟨rfl,K2.out⟩
 have d0:decide ((200:Int) < (l0.length:Int))=false:=decide_eq_false (by omega)
 have hle:l0.length<=200:=by omega
 clear hbig
 go_enter Tryd.func8,Tryd.ntmps8
 go_wp2_with fail
 refine (AL.out _ Nb.rfl).mono ?_
 rintro e w1 ⟨rfl,n1⟩
 have K1:=Lib.hid n1
 clear n1
 go_wp2_with fail
 refine (newF_any 0 (by omega) _).mono ?_
 rintro e w2 ⟨R,F,rfl,g1,g2,g3⟩
 have N2:=Lib.hid (show FiX w w2 _ ⟨0,0,[]⟩ noF from FiX.new g1 g2 g3 K1.out)
 generalize Value.pointer (some ⟨R,0,none⟩)=vq at *
 clear g1 g2 g3
 go_wp2
 go_loopw [5,29] (fun nv ix wr=>∃ (k n:Nat),k<=l0.length/\n<=k/\ix = .int .i64 k/\nv = .int .i64 n/\FiX w wr vq ⟨0,n,[]⟩ noF) (fun _ ix _=>l0.length - (intOf ix).toNat)
 case atStart=>exact⟨0,0,Nat.zero_le _,Nat.zero_le _,rfl,rfl,N2.out⟩
 case round =>
  obtain⟨k,n,hk,hnk,rfl,rfl,hN⟩:=hrel
  have N:=Lib.hid hN
  clear hN N2
  by_cases hlt:k < l0.length
  ·have hlt':decide ((k:Int) < (l0.length:Int))=true:=decide_eq_true (by omega)
   obtain⟨⟨⟨Kf,If,Xf,Rf,Bf,Ef,Sf,Df,Vf,Af⟩,lf⟩,hx⟩:∃ x,l0.getD k dF=x:=⟨_,rfl⟩
   obtain⟨bf,of,rfl,-⟩:=HFR.out.hcells (by omega)
   obtain⟨pf,qf,hat⟩:=HFR.out.at hlt hx
   have AT:=Lib.hid hat
   obtain⟨⟨v0,v1,v2,v3,v4,v5,v6,v7,v8,v9,v10⟩,_⟩:=AT.out wr (N.out.nb)
   clear hat
   obtain⟨QB,hQ⟩:∃ Q,Q=wr.heap.size:=⟨_,rfl⟩
   obtain⟨uB,hu⟩:∃ u,u=wr.alloc (.cells #[.int .i64 Kf,.int .u32 If,.bool Xf,.bool Rf,.bool Bf,.bool Ef,.bool Sf,.int .u8 Df,.int .u8 Vf,.int .u32 Af,.slice pf lf.length qf] 36):=⟨_,rfl⟩
   have HU:=Lib.hid hu
   have HQ:=Lib.hid hQ
   have NU:=Lib.hid (show FiX w uB vq ⟨0,n,[]⟩ (fun k=>k=QB) by rw[hu,hQ];exact (N.out.addB _ _).less (fun k hk => .inr hk))
   have BU:=Lib.hid (show Blk uB QB _ _ by rw[hu,hQ];exact Blk.new _ _ _)
   have hp:=NU.out.push ⟨Kf,If,Xf,Rf,Bf,Ef,Sf,Df,Vf,Af⟩ pf qf lf (HK.out.below NU.out.nb) (AT.out _ NU.out.nb).2 (show n<=1000000 by omega)
   rw[show (⟨0,n,[]⟩:Fi).pushB ⟨Kf,If,Xf,Rf,Bf,Ef,Sf,Df,Vf,Af⟩ lf=false by simp[Fi.pushB]] at hp
   have CK:=Lib.hid (fun w' (n:Nb w w')=>check5_any ⟨Kf,If,Xf,Rf,Bf,Ef,Sf,Df,Vf,Af⟩ pf qf lf w' (AT.out w' n).2 (HK.out.below n))
   cases hok:okF ⟨Kf,If,Xf,Rf,Bf,Ef,Sf,Df,Vf,Af⟩ lf with
   | false =>
     rw[show checkN ⟨Kf,If,Xf,Rf,Bf,Ef,Sf,Df,Vf,Af⟩ lf=2 by simp[checkN,hok],show (⟨0,n,[]⟩:Fi).push ⟨Kf,If,Xf,Rf,Bf,Ef,Sf,Df,Vf,Af⟩ lf=⟨0,n,[]⟩ by simp[Fi.push,hok]] at hp
     rw[show checkN ⟨Kf,If,Xf,Rf,Bf,Ef,Sf,Df,Vf,Af⟩ lf=2 by simp[checkN,hok]] at CK
     simp only[Hd.cs] at hp CK
     have HP:=Lib.hid hp
     clear hp hok hx hu hQ N AT
     go_wp2_with fail
     rw[<- HU.out]
     refine HP.out.mono ?_
     rintro e w3 ⟨G,rfl,gk,gX,_,hn⟩
     have N3:=Lib.hid hn
     obtain⟨c0,c1,c2,c3,c4,c5,c6,c7,c8,c9,c10⟩:=(BU.out.keep gk (gX QB rfl)).c11
     rw[HQ.out] at c0 c1 c2 c3 c4 c5 c6 c7 c8 c9 c10
     clear hn gk gX HP BU NU HU
     go_wp2_with fail
     refine (CK.out _ N3.out.nb).mono ?_
     rintro e w4 ⟨rfl,n4⟩
     have N4:=Lib.hid ((N3.out.keep n4).less (Y:=noF) (fun k hk=>hk.elim))
     clear n4 N3 CK
     go_wp2
     go_roundw
     case rel=>exact⟨k+1,n,by omega,by omega,by go_num,by go_num,N4.out⟩
     case measure=>simp[intOf];omega
   | true =>
     rw[show checkN ⟨Kf,If,Xf,Rf,Bf,Ef,Sf,Df,Vf,Af⟩ lf=0 by simp[checkN,hok],show (⟨0,n,[]⟩:Fi).push ⟨Kf,If,Xf,Rf,Bf,Ef,Sf,Df,Vf,Af⟩ lf=⟨0,n+1,[]⟩ by simp[Fi.push,hok]] at hp
     rw[show checkN ⟨Kf,If,Xf,Rf,Bf,Ef,Sf,Df,Vf,Af⟩ lf=0 by simp[checkN,hok]] at CK
     simp only[Hd.cs] at hp CK
     have HP:=Lib.hid hp
     clear hp hok hx hu hQ N AT
     go_wp2_with fail
     rw[<- HU.out]
     refine HP.out.mono ?_
     rintro e w3 ⟨G,rfl,gk,gX,_,hn⟩
     have N3:=Lib.hid hn
     obtain⟨c0,c1,c2,c3,c4,c5,c6,c7,c8,c9,c10⟩:=(BU.out.keep gk (gX QB rfl)).c11
     rw[HQ.out] at c0 c1 c2 c3 c4 c5 c6 c7 c8 c9 c10
     clear hn gk gX HP BU NU HU
     go_wp2_with fail
     refine (CK.out _ N3.out.nb).mono ?_
     rintro e w4 ⟨rfl,n4⟩
     have N4:=Lib.hid ((N3.out.keep n4).less (Y:=noF) (fun k hk=>hk.elim))
     clear n4 N3 CK
     go_wp2
     go_roundw
     case rel=>exact⟨k+1,n+1,by omega,by omega,by go_num,by go_num,N4.out⟩
     case measure=>simp[intOf];omega
  ·have hlt':decide ((k:Int) < (l0.length:Int))=false:=decide_eq_false (by omega)
   have PO:=Lib.hid N.out.pop
   rw[show (⟨0,n,[]⟩:Fi).popE=9 from rfl,show (⟨0,n,[]⟩:Fi).head=dF from rfl,show (⟨0,n,[]⟩:Fi).pop=⟨0,n,[]⟩ from rfl] at PO
   simp only[Hd.cs,List.length_nil] at PO
   go_wp2_with fail
   refine PO.out.mono ?_
   rintro e w4 ⟨a4,c4,P4,G4,rfl,_,_,_,_,_,hn⟩
   have N4:=Lib.hid ((hn.less (Y:=noF) (fun k hk=>hk.elim)).keep (Nb.rfl.al (.cells #[.int .i64 0,.int .u32 0,.bool false,.bool false,.bool false,.bool false,.bool false,.int .u8 0,.int .u8 0,.int .u32 0,.slice a4 0 c4] 36)))
   clear hn PO N
   go_wp2_with fail
   refine N4.out.over.mono ?_
   rintro e w5 ⟨rfl,n5⟩
   have N5:=Lib.hid (N4.out.keep n5)
   clear n5 N4
   go_wp2_with fail
   refine N5.out.len.mono ?_
   rintro e w6 ⟨rfl,n6⟩
   have N6:=Lib.hid (N5.out.keep n6)
   go_wp2
   go_ret
   exact⟨rfl,N6.out.nb⟩
theorem door_met (os:Os) (args:Array Value):laidMetH Tryd.prog Rows.fifoNoneRow.laid ((World.doorLaid Tryd.prog 14 os).forCall (fun _ _=>0) ⟨#[],args,[]⟩).memory :=
 laidMetH_of_parts3 (fuel:=8) (laidMet_of_run' 8 (by kernel_rfl) (by kernel_rfl)) (by kernel_rfl) (by kernel_rfl)
theorem lifted (os:Os) (started:os.Started) (H:Type) (enc:TypeId × Value->H) :
    ReturnsInHanded {} Tryd.checked os 8 .any (fun w args=>(Rows.fifoNoneSpec.pre enc Tryd.prog Tryd.f8 [] false w args/\laidMetH Tryd.prog Rows.fifoNoneRow.laid w)/\sizedMet enc Tryd.prog Tryd.f8 (OpenSpec.ofChange Rows.fifoNoneSpec) false w args)
     (Rows.fifoNoneSpec.post enc Tryd.prog Tryd.f8 false true false false):=by
 refine returnsInHanded_of_change_and (C:=Tryd.checked) (X:=fun w _=>laidMetH Tryd.prog Rows.fifoNoneRow.laid w) (fun _ _ _ hh h=>h.of_heap hh) own started (by kernel_rfl) Tryd.func8
  (ChangeSpec.witness_shaped (enc:=enc) (C:=Tryd.checked) (os:=os) (X:=fun w _=>laidMetH Tryd.prog Rows.fifoNoneRow.laid w) false (World.doorLaid Tryd.prog 14 os) #[.slice none 0 0] 8 rfl (World.shaped_of_RefB (by kernel_rfl) (by kernel_rfl)) (by kernel_rfl) (by kernel_rfl) (by kernel_rfl) (door_met os _)) ?_
 intro W base args ds gs before hval0 hW _ hR hL _
 have hval:∀ (j:Nat) t v,Tryd.f8.params[j]? = some t->args[j]? = some v->Value.okWide Tryd.prog W .any base t v:=hval0
 have hW':=hW
 obtain⟨p,q,hA0,hV,rfl,hfz,hnd⟩:=hW
 have hA:DataW.TrodAll enc Tryd.prog W 0 (fun _=>true) true Tryd.f8.params.toList args.toList ds p:=hA0
 rw[Tryd.params8] at hA hval
 obtain⟨v0,vs0,d0,ds0,p0,q0,hargs,rfl,rfl,h0,r0⟩:=trodAll_cons hA
 obtain⟨rfl,rfl,rfl⟩:=trodAll_nil r0
 obtain rfl:args=#[v0]:=by cases args;simp_all
 obtain⟨rfl,rfl⟩:=trodVars_none hV
 have k0:=h0
 have lt0:∀ x∈p0,x.block < W.heap.size:=by obtain⟨m,hm⟩:=k0;exact DataW.trod_lt m _ _ _ hm
 clear hA0
 obtain⟨a0,lc0,cap0,rfl⟩:=okWide_slice Tryd.underlying30 (hval 0 30 v0 rfl rfl)
 obtain⟨fu0,hf0⟩:=h0
 have hc0:DataW.trod enc Tryd.prog W 0 (fun _=>true) true fu0 30 [.slice a0 lc0 cap0]=some (d0,p0):=hf0
 obtain⟨b0,cb0,l0,e0,hb0,n0⟩:=frames_opn hc0
 simp only[Value.slice.injEq] at e0
 obtain⟨rfl,rfl,rfl⟩:=e0
 refine (walk W (longer_of hL) a0 cap0 l0 hb0 n0).mono fun e W' ⟨he,bel⟩ => ?_
 subst he
 exact⟨_,rfl,_,_,_,[],_,[],hW',trodAll_mk1 (shut_bool Tryd.underlying4 _),(trodAll_cons_mk (Below.trod laidOut (by kernel_rfl) (of_decide_eq_true (by kernel_rfl)) k0 bel lt0) trodAll_mk0),rfl,bel.frame _,fun h=>by cases h⟩
theorem over:Rows.fifoNoneRow.holds Tryd.pinned (OpenSpec.ofChange Rows.fifoNoneSpec) :=
 OpenClaim.holds_of_wide 8 Tryd.f8 rfl rfl rfl rfl rfl rfl rfl ⟨rfl,rfl,rfl,rfl,rfl⟩ rfl rfl rfl rfl rfl (by kernel_rfl) Tryd.func8 (by kernel_rfl)
  (of_decide_eq_true (by kernel_rfl)) (by unfold Func.isWrapper;first | (rw[if_pos (by decide +kernel)];kernel_rfl) | (rw[if_neg (by decide +kernel)];exact⟨rfl,rfl⟩))
  (fun os started H enc _=>lifted os started H enc)
theorem plain (f : FuncId) (fn : Func) (hf : Tryd.pinned.checked.prog.funcNamed "omnibus/omnibuslaw16.FifoNone" = some f) (hfn : Tryd.pinned.checked.prog.funcs[f]? = some fn) :
    false=Tryd.pinned.checked.prog.looks []/\∀ (j:Nat) t,fn.params[j]? = some t->Tryd.pinned.checked.prog.wantsStandIn t=false:=by
 obtain rfl : f = 8 := Option.some.inj ((show Tryd.prog.funcNamed "omnibus/omnibuslaw16.FifoNone" = some 8 by kernel_rfl).symm.trans hf) |>.symm
 obtain rfl:fn=Tryd.f8:=(Option.some.inj (Tryd.func8.symm.trans hfn)).symm
 refine⟨by kernel_rfl,fun j t ht => ?_⟩
 rw[Tryd.params8] at ht
 have hm:t∈[30]:=by have:=Array.mem_of_getElem? ht;simp at this ⊢;omega
 have hall:([30].all fun u => !Tryd.prog.wantsStandIn u)=true:=by kernel_rfl
 exact (show Tryd.prog.wantsStandIn t=false by simpa using List.all_eq_true.1 hall t hm)
theorem proved:Rows.FifoNoneCardSaid :=
 Claim7.holds_tied_plain_at .later [] _ _ _ _ over (fun _ h=>by cases h) (by kernel_rfl) (fun _ h=>by cases h) fifoNone_row_tie rfl ⟨rfl,rfl⟩ (by kernel_rfl) rfl plain (by kernel_rfl)
#print axioms proved
end Go.Proofs.YtlmbggmamemmjaaDoor.fifoNone
