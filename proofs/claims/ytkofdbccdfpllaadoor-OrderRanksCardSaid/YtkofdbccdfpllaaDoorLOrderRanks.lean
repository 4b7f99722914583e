/- For every slice of frames the law OrderRanks answers true and leaves its argument as it was; the package's table of longer sizes is tied to the program's text. No conditions. -/
import Derived.Test.YtkofdbccdfpllaaDoorRows
import Derived.Test.YtkofdbccdfpllaaDoorCards
import Derived.Test.YtkofdbccdfpllaaDoorTie
import Derived.Test.YtkofdbccdfpllaaDoorOrA
import Derived.Test.YtkofdbccdfpllaaDoorOrV
import Derived.Test.YtkofdbccdfpllaaDoorGor
import Derived.Test.YtkofdbccdfpllaaDoorOrO
import Derived.Test.YtkofdbccdfpllaaDoorGe
import Derived.WalkKit
import Derived.ProofKit
import Derived.OpenShut
import Derived.ShutString
import Derived.ChangeOld
import Derived.Below
import Derived.Carry
import Derived.Lib.SmallJoins
import Derived.Deep.RegionWith
import Derived.Deep.RegionHeld3
import Derived.LaidMore
import Derived.LaidLaws
import Derived.Stop.Joined
import Derived.SevenTiedAt
set_option maxHeartbeats 8000000
set_option maxRecDepth 100000
namespace Go.Proofs.YtkofdbccdfpllaaDoor.orderRanks
open Go.ChangeShapes Go.WideShapes Go.ChangeAt Go.RowKit Go.Joins
set_option linter.unusedVariables false
set_option linter.unusedSimpArgs false
theorem own:ownKnob Tryd.prog.godebug=none:=by kernel_rfl
theorem laidOut:laidOutB Tryd.prog=true:=by kernel_rfl
theorem walk (w:World) (hK:Longer w) (a0:Option Addr) (cap0:Nat) (l0:List (Hd × List Nat)) (h0:FrsAt w a0 cap0 l0) (n0:a0=none->cap0=0) :
    Calls Tryd.prog 3 #[.slice a0 l0.length cap0] w fun e w'=>e = .returned (.bool true)/\Nb w w':=by
 have HK:=Lib.hid hK
 have hL0:=h0.len
 have HF:=Lib.hid h0
 have AL:=Lib.hid (fun w' (n:Nb w w')=>alive10_any w' (hK.below n))
 clear hK n0 h0
 by_cases hbig:60 < l0.length
 ·have d0:decide ((60:Int) < (l0.length:Int))=true:=decide_eq_true (by omega)
  clear hbig
  go_enter Tryd.func3,Tryd.ntmps3
  go_wp2_with fail
  refine (AL.out _ Nb.rfl).mono ?_
  rintro e z1 ⟨rfl,q1⟩
  have M1:=Lib.hid q1
  clear q1
  go_wp2
  go_ret
  exact⟨rfl,M1.out⟩
 have d0:decide ((60:Int) < (l0.length:Int))=false:=decide_eq_false (by omega)
 have hle:l0.length<=1000:=by omega
 have K1:=Lib.hid (fun w' (n:Nb w w')=>rank10_any a0 cap0 l0 w' (HF.out.below n) hle (HK.out.below n))
 have K2:=Lib.hid (fun w' (n:Nb w w')=>refrank10_any a0 cap0 l0 w' (HF.out.below n) hle)
 have K3:=Lib.hid (fun w' (n:Nb w w')=>first10_any a0 cap0 l0 w' (HF.out.below n) hle (HK.out.below n))
 have K4:=Lib.hid (fun w' (n:Nb w w')=>reffirst10_any a0 cap0 l0 w' (HF.out.below n) hle)
 unfold AnsN at K1 K2
 generalize rankV l0=RV at K1 K2
 generalize rankE l0=RE at K1 K2
 generalize firstV l0=FV at K3 K4
 generalize firstE l0=FE at K3 K4
 clear hbig hle
 go_enter Tryd.func3,Tryd.ntmps3
 go_wp2_with fail
 refine (AL.out _ Nb.rfl).mono ?_
 rintro e z1 ⟨rfl,q1⟩
 have M1:=Lib.hid q1
 clear q1
 go_wp2_with fail
 refine (K1.out _ M1.out).mono ?_
 rintro e z2 ⟨⟨v2,rfl,o2,f2⟩,q2⟩
 have M2:=Lib.hid (M1.out.tr q2)
 have O2:=Lib.hid o2
 clear q2 o2 f2
 go_wp2_with fail
 refine (K2.out _ M2.out).mono ?_
 rintro e z3 ⟨⟨v3,rfl,o3,f3⟩,q3⟩
 have M3:=Lib.hid (M2.out.tr q3)
 have O23:=Lib.hid (O2.out.nb q3)
 have O3:=Lib.hid o3
 clear q3 o3 f3
 go_wp2_with fail
 refine (K3.out _ M3.out).mono ?_
 rintro e z4 ⟨rfl,q4⟩
 have M4:=Lib.hid (M3.out.tr q4)
 have N4:=Lib.hid q4
 clear q4
 go_wp2_with fail
 refine (K4.out _ M4.out).mono ?_
 rintro e z5 ⟨rfl,q5⟩
 have M5:=Lib.hid (M4.out.tr q5)
 have N5:=Lib.hid (N4.out.tr q5)
 clear q5
 go_wp2_with fail
 refine (refints_any v2 v3 RV RV _ (O23.out.nb N5.out) (O3.out.nb N5.out)).mono ?_
 rintro e z6 ⟨rfl,q6⟩
 have M6:=Lib.hid (M5.out.tr q6)
 clear q6
 have dd:decide (RV=RV)=true:=decide_eq_true rfl
 rw[dd]
 go_wp2
 go_ret
 exact⟨by simp,M6.out⟩
theorem door_met (os:Os) (args:Array Value):laidMetH Tryd.prog Rows.orderRanksRow.laid ((World.doorLaid Tryd.prog 24 os).forCall (fun _ _=>0) ⟨#[],args,[]⟩).memory :=
 laidMetH_of_parts3 (fuel:=8) (laidMet_of_run' 8 (by kernel_rfl) (by kernel_rfl)) (by kernel_rfl) (by kernel_rfl)
theorem lifted (os:Os) (started:os.Started) (H:Type) (enc:TypeId × Value->H) :
    ReturnsInHanded {} Tryd.checked os 3 .any (fun w args=>(Rows.orderRanksSpec.pre enc Tryd.prog Tryd.f3 [] false w args/\laidMetH Tryd.prog Rows.orderRanksRow.laid w)/\sizedMet enc Tryd.prog Tryd.f3 (OpenSpec.ofChange Rows.orderRanksSpec) false w args)
     (Rows.orderRanksSpec.post enc Tryd.prog Tryd.f3 false true false false):=by
 refine returnsInHanded_of_change_and (C:=Tryd.checked) (X:=fun w _=>laidMetH Tryd.prog Rows.orderRanksRow.laid w) (fun _ _ _ hh h=>h.of_heap hh) own started (by kernel_rfl) Tryd.func3
  (ChangeSpec.witness_shaped (enc:=enc) (C:=Tryd.checked) (os:=os) (X:=fun w _=>laidMetH Tryd.prog Rows.orderRanksRow.laid w) false (World.doorLaid Tryd.prog 24 os) #[.slice none 0 0] 8 rfl (World.shaped_of_RefB (by kernel_rfl) (by kernel_rfl)) (by kernel_rfl) (by kernel_rfl) (by kernel_rfl) (door_met os _)) ?_
 intro W base args ds gs before hval0 hW _ hR hL _
 have hval:∀ (j:Nat) t v,Tryd.f3.params[j]? = some t->args[j]? = some v->Value.okWide Tryd.prog W .any base t v:=hval0
 have hW':=hW
 obtain⟨p,q,hA0,hV,rfl,hfz,hnd⟩:=hW
 have hA:DataW.TrodAll enc Tryd.prog W 0 (fun _=>true) true Tryd.f3.params.toList args.toList ds p:=hA0
 rw[Tryd.params3] at hA hval
 obtain⟨v0,vs0,d0,ds0,p0,q0,hargs,rfl,rfl,h0,r0⟩:=trodAll_cons hA
 obtain⟨rfl,rfl,rfl⟩:=trodAll_nil r0
 obtain rfl:args=#[v0]:=by cases args;simp_all
 obtain⟨rfl,rfl⟩:=trodVars_none hV
 have k0:=h0
 have lt0:∀ x∈p0,x.block < W.heap.size:=by obtain⟨m,hm⟩:=k0;exact DataW.trod_lt m _ _ _ hm
 clear hA0
 obtain⟨a0,lc0,cap0,rfl⟩:=okWide_slice Tryd.underlying22 (hval 0 22 v0 rfl rfl)
 obtain⟨fu0,hf0⟩:=h0
 have hc0:DataW.trod enc Tryd.prog W 0 (fun _=>true) true fu0 22 [.slice a0 lc0 cap0]=some (d0,p0):=hf0
 obtain⟨b0,cb0,l0,e0,hb0,n0⟩:=frames_opn hc0
 simp only[Value.slice.injEq] at e0
 obtain⟨rfl,rfl,rfl⟩:=e0
 refine (walk W (longer_of hL) a0 cap0 l0 hb0 n0).mono fun e W' ⟨he,bel⟩ => ?_
 subst he
 exact⟨_,rfl,_,_,_,[],_,[],hW',trodAll_mk1 (shut_bool Tryd.underlying4 _),(trodAll_cons_mk (Below.trod laidOut (by kernel_rfl) (of_decide_eq_true (by kernel_rfl)) k0 bel lt0) trodAll_mk0),rfl,bel.frame _,fun h=>by cases h⟩
theorem over:Rows.orderRanksRow.holds Tryd.pinned (OpenSpec.ofChange Rows.orderRanksSpec) :=
 OpenClaim.holds_of_wide 3 Tryd.f3 rfl rfl rfl rfl rfl rfl rfl ⟨rfl,rfl,rfl,rfl,rfl⟩ rfl rfl rfl rfl rfl (by kernel_rfl) Tryd.func3 (by kernel_rfl)
  (of_decide_eq_true (by kernel_rfl)) (by unfold Func.isWrapper;first | (rw[if_pos (by decide +kernel)];kernel_rfl) | (rw[if_neg (by decide +kernel)];exact⟨rfl,rfl⟩))
  (fun os started H enc _=>lifted os started H enc)
theorem plain (f : FuncId) (fn : Func) (hf : Tryd.pinned.checked.prog.funcNamed "omnibus/omnibuslaw10.OrderRanks" = some f) (hfn : Tryd.pinned.checked.prog.funcs[f]? = some fn) :
    true=Tryd.pinned.checked.prog.looks []/\∀ (j:Nat) t,fn.params[j]? = some t->Tryd.pinned.checked.prog.wantsStandIn t=false:=by
 obtain rfl : f = 3 := Option.some.inj ((show Tryd.prog.funcNamed "omnibus/omnibuslaw10.OrderRanks" = some 3 by kernel_rfl).symm.trans hf) |>.symm
 obtain rfl:fn=Tryd.f3:=(Option.some.inj (Tryd.func3.symm.trans hfn)).symm
 refine⟨by kernel_rfl,fun j t ht => ?_⟩
 rw[Tryd.params3] at ht
 have hm:t∈[22]:=by have:=Array.mem_of_getElem? ht;simp at this ⊢;omega
 have hall:([22].all fun u => !Tryd.prog.wantsStandIn u)=true:=by kernel_rfl
 exact (show Tryd.prog.wantsStandIn t=false by simpa using List.all_eq_true.1 hall t hm)
theorem proved:Rows.OrderRanksCardSaid :=
 Claim7.holds_tied_plain_at .later [] _ _ _ _ over (fun _ h=>by cases h) (by kernel_rfl) (fun _ h=>by cases h) orderRanks_row_tie rfl ⟨rfl,rfl⟩ (by kernel_rfl) rfl plain (by kernel_rfl)
#print axioms proved
end Go.Proofs.YtkofdbccdfpllaaDoor.orderRanks
