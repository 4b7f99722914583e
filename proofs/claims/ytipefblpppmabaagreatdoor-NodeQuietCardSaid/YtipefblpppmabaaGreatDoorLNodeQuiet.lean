/- For either knowledge and every number the law NodeQuiet answers true and leaves its arguments as they were; the package's tables are tied to the program's text. No conditions. -/
import Derived.Test.YtipefblpppmabaaGreatDoorRows
import Derived.Test.YtipefblpppmabaaGreatDoorCards
import Derived.Test.YtipefblpppmabaaGreatDoorTie
import Derived.Test.YtipefblpppmabaaGreatDoorGp
import Derived.Test.YtipefblpppmabaaGreatDoorGa
import Derived.WalkKit
import Derived.ProofKit
import Derived.OpenShut
import Derived.ShutString
import Derived.ChangeOld
import Derived.Below
import Derived.Carry
import Derived.Lib.SmallJoins
import Derived.Deep.RegionWith
import Derived.Deep.RegionHeld3
import Derived.LaidMore
import Derived.LaidLaws
import Derived.Stop.Joined
import Derived.SevenTiedAt
set_option maxHeartbeats 4000000
set_option maxRecDepth 100000
namespace Go.Proofs.YtipefblpppmabaaGreatDoor.nodeQuiet
open Go.ChangeShapes Go.WideShapes Go.ChangeAt Go.RowKit Go.Joins
set_option linter.unusedVariables false
set_option linter.unusedSimpArgs false
theorem own:ownKnob Tryz.prog.godebug=none:=by kernel_rfl
theorem laidOut:laidOutB Tryz.prog=true:=by kernel_rfl
theorem ones_st (kn:Bool) (k:Nat):stV (Nd.ones kn k) = .agg #[.int .i64 (if k < 11 then 0 else 1:Nat),.int .i64 (if k < 11 then k else 0:Nat),.int .i64 0,.int .i64 0,.bool false,.bool false]:=by
 unfold Nd.ones
 by_cases h:k < 11
 ·rw[if_pos h,if_pos h,if_pos h]
  rfl
 ·rw[if_neg h,if_neg h,if_neg h]
  rfl
theorem ones_drop (kn:Bool) (k:Nat):(Nd.ones kn k).dropB=false/\(Nd.ones kn k).drop=Nd.ones kn k/\((Nd.ones kn k).ph==10)=false:=by
 unfold Nd.ones
 by_cases h:k < 11
 ·rw[if_pos h];exact⟨rfl,rfl,rfl⟩
 ·rw[if_neg h];exact⟨rfl,rfl,rfl⟩
theorem field_fa (p c T R O h:Value) (w:World):(Instr.field 51 (.agg #[p,c,T,R,O,h]) 2).run Tryz.prog w = .ok (.agg #[T,R,O]) w:=by kernel_rfl
theorem walk (w:World) (hK:Both w) (a0:Bool) (a1:Int) (w1:(Lit.int .u16 a1).wf=true) :
    Calls Tryz.prog 6 #[.bool a0,.int .u16 a1] w fun e w'=>e = .returned (.bool true)/\Nb w w':=by
 have hat:0<=a1/\a1 < 65536:=by
  simp[Lit.wf,IntKind.min,IntKind.max,IntKind.signed,IntKind.bits] at w1
  omega
 obtain⟨n,rfl⟩:=Int.eq_ofNat_of_zero_le hat.1
 have hn2:n < 65536:=by omega
 have HK:=Lib.hid hK
 have hfp:=field_ph
 have hff:=field_fa
 clear hK w1 hat
 go_enter Tryz.func6,Tryz.ntmps6
 go_wp2_with fail
 refine (alive12_any _ HK.out).mono ?_
 rintro e w1 ⟨rfl,n1⟩
 have M1:=Lib.hid n1
 clear n1
 go_wp2_with fail
 refine (new12_any a0 w1 (HK.out.below M1.out)).mono ?_
 rintro e w2 ⟨v,F,rfl,h1,h2,h3⟩
 have HN2:Hid (NodeN w w2 v (Nd.new a0)):=Lib.hid ⟨F,h1,fun k hk=>Nat.le_trans M1.out.size (h2 k hk),M1.out.tr h3⟩
 clear h1 h2 h3
 go_wp2
 go_loopw [17] (fun ix wr=>∃ k:Nat,k<=n%500/\ix = .int .i64 k/\NodeN w wr v (Nd.ones a0 k)) (fun ix _=>n%500 - (intOf ix).toNat)
 case atStart=>exact⟨0,Nat.zero_le _,rfl,HN2.out⟩
 case round =>
  obtain⟨k,hk,rfl,F5,h1,h2,h3⟩:=hrel
  have N5:=Lib.hid h3
  have HF5:=Lib.hid h2
  have H1:=Lib.hid h1
  have HB5:=Lib.hid (HK.out.below h3)
  clear h1 h2 h3 HN2
  have hok:=ones_ok a0 k
  have hone:=ones_step a0 k
  have hout:=out12_any v (Nd.ones a0 k) F5 wr H1.out hok HB5.out
  rw[hone.1] at hout
  have hsamp:=fun w' (m:Nb wr w')=>samp12_any v (Nd.ones a0 k) F5 1 w' (node_keep H1.out (Kp.ofNb (F:=fun _=>False) m) (by simp)) hok (fun _=>by rw[ones_x];simp) (HB5.out.below m) (by omega)
  rw[hone.2] at hsamp
  have HOU:=Lib.hid hout
  have HSA:=Lib.hid hsamp
  have HOK:=Lib.hid hok
  clear hok hone hout hsamp
  by_cases hlt:k < n%500
  ·have hlt':decide ((k:Int) < (n:Int)%500)=true:=decide_eq_true (by omega)
   go_wp2_with fail
   refine HOU.out.mono ?_
   rintro e w6 ⟨rfl,q6⟩
   have HS6:=Lib.hid (HSA.out _ q6)
   have N6:=Lib.hid (N5.out.tr q6)
   have H6:=Lib.hid (node_keep H1.out (Kp.ofNb (F:=fun _=>False) q6) (by simp))
   clear q6 HSA HOU
   go_wp2_with fail
   refine HS6.out.mono ?_
   rintro e w7 ⟨F7,⟨a,c,rfl,_,_⟩,g1,g2,g3⟩
   have HN7:Hid (NodeN w w7 v (Nd.ones a0 (k+1))):=Lib.hid (NodeN.turn H6.out HF5.out N6.out g1 g2 g3)
   clear g1 g2 g3 H6 HS6
   obtain⟨F8,j1,j2,j3⟩:=HN7.out
   have hst:=fun w' (m:Nb w7 w')=>state12_any v (Nd.ones a0 (k+1)) F8 w' (node_keep j1 (Kp.ofNb (F:=fun _=>False) m) (by simp)) (ones_ok a0 (k+1)) (HK.out.below (j3.tr m))
   rw[ones_st] at hst
   clear j1 j2 j3
   simp only[evV,staV,noEv,noF]
   by_cases h10:10<=k
   ·rw[if_neg (show ¬k+1 < 11 by omega),if_neg (show ¬k+1 < 11 by omega)] at hst
    have HST:=Lib.hid hst
    have d10:decide ((10:Int)<=(k:Int))=true:=decide_eq_true (by omega)
    clear hst h10
    go_wp2_with fail
    refine (HST.out _ (Nb.rfl.al _)).mono ?_
    rintro e w8 ⟨rfl,n8⟩
    have M8:=Lib.hid ((Nb.rfl.al _).tr n8:Nb w7 w8)
    clear n8
    go_wp2
    go_roundw
    case rel=>exact⟨k+1,by omega,by go_num,HN7.out.keep M8.out⟩
    case measure=>simp[intOf];omega
   ·rw[if_pos (show k+1 < 11 by omega),if_pos (show k+1 < 11 by omega)] at hst
    have HST:=Lib.hid hst
    have d10:decide ((10:Int)<=(k:Int))=false:=decide_eq_false (by omega)
    clear hst h10
    go_wp2_with fail
    refine (HST.out _ (Nb.rfl.al _)).mono ?_
    rintro e w8 ⟨rfl,n8⟩
    have M8:=Lib.hid ((Nb.rfl.al _).tr n8:Nb w7 w8)
    clear n8
    go_wp2
    go_roundw
    case rel=>exact⟨k+1,by omega,by go_num,HN7.out.keep M8.out⟩
    case measure=>simp[intOf];omega
  ·have hlt':decide ((k:Int) < (n:Int)%500)=false:=decide_eq_false (by omega)
   have hst:=fun w' (m:Nb wr w')=>state12_any v (Nd.ones a0 k) F5 w' (node_keep H1.out (Kp.ofNb (F:=fun _=>False) m) (by simp)) HOK.out (HB5.out.below m)
   rw[ones_st] at hst
   have HDR:=Lib.hid (fun w' (m:Nb wr w')=>drop12_any v (Nd.ones a0 k) F5 w' (node_keep H1.out (Kp.ofNb (F:=fun _=>False) m) (by simp)))
   obtain⟨o1,o2,o3⟩:=ones_drop a0 k
   simp only[o1,o2] at HDR
   have HRS:=Lib.hid (fun w' (F':Nat->Prop) (h:NodeAt w' v (Nd.ones a0 k) F')=>restart12_any v (Nd.ones a0 k) F' w' h)
   simp only[o3] at HRS
   have HST:=Lib.hid hst
   generalize (if k < 11 then 0 else 1:Nat)=ph at HST
   generalize (if k < 11 then k else 0:Nat)=cc at HST
   clear hst o1 o2 o3 HOU HSA hlt
   go_wp2_with fail
   refine (HST.out _ Nb.rfl).mono ?_
   rintro e w6 ⟨rfl,n6⟩
   have HD6:=Lib.hid (HDR.out w6 n6)
   have N6:=Lib.hid (N5.out.tr n6)
   clear n6
   go_wp2_with fail
   refine HD6.out.mono ?_
   rintro e w7 ⟨F7,rfl,g1,g2,g3⟩
   have HR7:=Lib.hid (HRS.out w7 F7 g1)
   have N7:=Lib.hid (N6.out.trans (g2.toBelow N6.out.size HF5.out))
   have HF7:=Lib.hid (fun k hk=>(g3 k hk).elim (HF5.out k) (Nat.le_trans N6.out.size))
   clear g1 g2 g3
   go_wp2_with fail
   refine HR7.out.mono ?_
   rintro e w8 ⟨F8,rfl,g1,g2,g3⟩
   have N8:=Lib.hid (N7.out.trans (g2.toBelow N7.out.size HF7.out))
   clear g1 g2 g3
   go_wp2
   go_ret
   exact⟨rfl,N8.out⟩
theorem door_met (os:Os) (args:Array Value):laidMetH Tryz.prog Rows.nodeQuietRow.laid ((World.doorLaid Tryz.prog 24 os).forCall (fun _ _=>0) ⟨#[],args,[]⟩).memory :=
 laidMetH_of_parts3 (fuel:=8) (laidMet_of_run' 8 (by kernel_rfl) (by kernel_rfl)) (by kernel_rfl) (by kernel_rfl)
theorem lifted (os:Os) (started:os.Started) (H:Type) (enc:TypeId × Value->H) :
    ReturnsInHanded {} Tryz.checked os 6 .any (fun w args=>(Rows.nodeQuietSpec.pre enc Tryz.prog Tryz.f6 [] false w args/\laidMetH Tryz.prog Rows.nodeQuietRow.laid w)/\sizedMet enc Tryz.prog Tryz.f6 (OpenSpec.ofChange Rows.nodeQuietSpec) false w args)
     (Rows.nodeQuietSpec.post enc Tryz.prog Tryz.f6 false true false false):=by
 refine returnsInHanded_of_change_and (C:=Tryz.checked) (X:=fun w _=>laidMetH Tryz.prog Rows.nodeQuietRow.laid w) (fun _ _ _ hh h=>h.of_heap hh) own started (by kernel_rfl) Tryz.func6
  (ChangeSpec.witness_shaped (enc:=enc) (C:=Tryz.checked) (os:=os) (X:=fun w _=>laidMetH Tryz.prog Rows.nodeQuietRow.laid w) false (World.doorLaid Tryz.prog 24 os) #[.bool false,.int .u16 0] 8 rfl (World.shaped_of_RefB (by kernel_rfl) (by kernel_rfl)) (by kernel_rfl) (by kernel_rfl) (by kernel_rfl) (door_met os _)) ?_
 intro W base args ds gs before hval0 hW _ hR hL _
 have hval:∀ (j:Nat) t v,Tryz.f6.params[j]? = some t->args[j]? = some v->Value.okWide Tryz.prog W .any base t v:=hval0
 have hW':=hW
 obtain⟨p,q,hA0,hV,rfl,hfz,hnd⟩:=hW
 have hA:DataW.TrodAll enc Tryz.prog W 0 (fun _=>true) true Tryz.f6.params.toList args.toList ds p:=hA0
 rw[Tryz.params6] at hA hval
 obtain⟨v0,vs0,d0,ds0,p0,q0,hargs,rfl,rfl,h0,r0⟩:=trodAll_cons hA
 obtain⟨v1,vs1,d1,ds1,p1,q1,rfl,rfl,rfl,h1,r1⟩:=trodAll_cons r0
 obtain⟨rfl,rfl,rfl⟩:=trodAll_nil r1
 obtain rfl:args=#[v0,v1]:=by cases args;simp_all
 obtain⟨rfl,rfl⟩:=trodVars_none hV
 have k0:=h0
 have lt0:∀ x∈p0,x.block < W.heap.size:=by obtain⟨m,hm⟩:=k0;exact DataW.trod_lt m _ _ _ hm
 have k1:=h1
 have lt1:∀ x∈p1,x.block < W.heap.size:=by obtain⟨m,hm⟩:=k1;exact DataW.trod_lt m _ _ _ hm
 clear hA0
 obtain⟨a0,rfl,rfl,rfl⟩:=open_bool Tryz.underlying4 (hval 0 4 v0 rfl rfl) h0
 obtain⟨a1,rfl,rfl,rfl,w1⟩:=open_int Tryz.underlying55 (hval 1 55 v1 rfl rfl) h1
 refine (walk W (both_of hL) a0 a1 w1).mono fun e W' ⟨he,bel⟩ => ?_
 subst he
 exact⟨_,rfl,_,_,_,[],_,[],hW',trodAll_mk1 (shut_bool Tryz.underlying4 _),(trodAll_cons_mk (Below.trod laidOut (by kernel_rfl) (of_decide_eq_true (by kernel_rfl)) k0 bel lt0) (trodAll_cons_mk (Below.trod laidOut (by kernel_rfl) (of_decide_eq_true (by kernel_rfl)) k1 bel lt1) trodAll_mk0)),rfl,bel.frame _,fun h=>by cases h⟩
theorem over:Rows.nodeQuietRow.holds Tryz.pinned (OpenSpec.ofChange Rows.nodeQuietSpec) :=
 OpenClaim.holds_of_wide 6 Tryz.f6 rfl rfl rfl rfl rfl rfl rfl ⟨rfl,rfl,rfl,rfl,rfl⟩ rfl rfl rfl rfl rfl (by kernel_rfl) Tryz.func6 (by kernel_rfl)
  (of_decide_eq_true (by kernel_rfl)) (by unfold Func.isWrapper;first | (rw[if_pos (by decide +kernel)];kernel_rfl) | (rw[if_neg (by decide +kernel)];exact⟨rfl,rfl⟩))
  (fun os started H enc _=>lifted os started H enc)
theorem plain (f : FuncId) (fn : Func) (hf : Tryz.pinned.checked.prog.funcNamed "omnibus/omnibuslaw12.NodeQuiet" = some f) (hfn : Tryz.pinned.checked.prog.funcs[f]? = some fn) :
    false=Tryz.pinned.checked.prog.looks []/\∀ (j:Nat) t,fn.params[j]? = some t->Tryz.pinned.checked.prog.wantsStandIn t=false:=by
 obtain rfl : f = 6 := Option.some.inj ((show Tryz.prog.funcNamed "omnibus/omnibuslaw12.NodeQuiet" = some 6 by kernel_rfl).symm.trans hf) |>.symm
 obtain rfl:fn=Tryz.f6:=(Option.some.inj (Tryz.func6.symm.trans hfn)).symm
 refine⟨by kernel_rfl,fun j t ht => ?_⟩
 rw[Tryz.params6] at ht
 have hm:t∈[4,55]:=by have:=Array.mem_of_getElem? ht;simp at this ⊢;omega
 have hall:([4,55].all fun u => !Tryz.prog.wantsStandIn u)=true:=by kernel_rfl
 exact (show Tryz.prog.wantsStandIn t=false by simpa using List.all_eq_true.1 hall t hm)
theorem proved:Rows.NodeQuietCardSaid :=
 Claim7.holds_tied_plain_at .later [] _ _ _ _ over (fun _ h=>by cases h) (by kernel_rfl) (fun _ h=>by cases h) nodeQuiet_row_tie rfl ⟨rfl,rfl⟩ (by kernel_rfl) rfl plain (by kernel_rfl)
#print axioms proved
end Go.Proofs.YtipefblpppmabaaGreatDoor.nodeQuiet
