/- For every bank of the document's the law FilterLeast answers true and leaves its argument as it was; the package's table of longer sizes is tied to the program's text. No conditions. -/
import Derived.Test.YtaohmgklhecjbaaDoorRows
import Derived.Test.YtaohmgklhecjbaaDoorCards
import Derived.Test.YtaohmgklhecjbaaDoorTie
import Derived.Test.YtaohmgklhecjbaaDoorFlS
import Derived.Test.YtaohmgklhecjbaaDoorFlO
import Derived.Test.YtaohmgklhecjbaaDoorGe
import Derived.WalkKit
import Derived.ProofKit
import Derived.OpenShut
import Derived.ShutString
import Derived.ChangeOld
import Derived.Below
import Derived.Carry
import Derived.Lib.SmallJoins
import Derived.Deep.RegionWith
import Derived.Deep.RegionHeld3
import Derived.LaidMore
import Derived.LaidLaws
import Derived.Stop.Joined
import Derived.SevenTiedAt
set_option maxHeartbeats 8000000
set_option maxRecDepth 100000
namespace Go.Proofs.YtaohmgklhecjbaaDoor.filterLeast
open Go.ChangeShapes Go.WideShapes Go.ChangeAt Go.RowKit Go.Joins
set_option linter.unusedVariables false
set_option linter.unusedSimpArgs false
theorem own:ownKnob Tryd.prog.godebug=none:=by kernel_rfl
theorem laidOut:laidOutB Tryd.prog=true:=by kernel_rfl
theorem arr2 {α:Type} {cs:Array α} (h:cs.size=2):∃ c0 c1,cs=#[c0,c1]:=by
 obtain⟨l⟩:=cs
 match l,h with
 | [c0,c1],_=>exact⟨c0,c1,rfl⟩
theorem walk (w:World) (hK:Longer w) (a0_0:Option Addr) (cap0_0:Nat) (l0_0:List Rl) (h0_0:Rls w a0_0 cap0_0 l0_0) (n0_0:a0_0=none->cap0_0=0) (r0_0:cap0_0*32<=140737488351232) (a0_1:Bool) :
    Calls Tryd.prog 4 #[.agg #[.slice a0_0 l0_0.length cap0_0,.bool a0_1]] w fun e w'=>e = .returned (.bool true)/\Nb w w':=by
 have HK:=Lib.hid hK
 have hL0:=h0_0.len
 have HR:=Lib.hid h0_0
 have AL:=Lib.hid (fun w' (n:Nb w w')=>alive15_any w' (hK.below n))
 obtain⟨z0,hz0⟩:∃ z0,z0=w.alloc (.cells #[.slice a0_0 l0_0.length cap0_0,.bool a0_1] 24):=⟨_,rfl⟩
 obtain⟨B,hB⟩:∃ B,B=w.heap.size:=⟨_,rfl⟩
 have NZ:=Lib.hid (show Nb w z0 by rw[hz0];exact Nb.rfl.al _)
 have BB:=Lib.hid (show Blk z0 B #[.slice a0_0 l0_0.length cap0_0,.bool a0_1] 24 by rw[hz0,hB];exact Blk.new _ _ _)
 clear hK h0_0 n0_0 r0_0
 by_cases hbig:200 < l0_0.length
 ·have d0:decide ((200:Int) < (l0_0.length:Int))=true:=decide_eq_true (by omega)
  clear hbig
  go_enter Tryd.func4,Tryd.ntmps4
  go_wp2_with fail
  rw[<- hz0,<- hB]
  clear hz0 hB
  refine (AL.out _ NZ.out).mono ?_
  rintro e w1 ⟨rfl,n1⟩
  obtain⟨e0,e1⟩:=(BB.out.nb n1).r2
  go_wp2
  go_ret
  exact⟨rfl,NZ.out.tr n1⟩
 have d0:decide ((200:Int) < (l0_0.length:Int))=false:=decide_eq_false (by omega)
 have hle:l0_0.length<=200:=by omega
 have lc:=fun ax cx w' (h:Rls w' ax cx l0_0)=>least15_any l0_0 ax cx a0_1 w' h
 have rc:=fun ax cx w' (h:Rls w' ax cx l0_0)=>refleast15_any l0_0 ax cx a0_1 w' h
 unfold LeastR at lc
 unfold LeastG at rc
 generalize (okB l0_0&&a0_1)=ev at lc rc
 generalize bkE l0_0=er at lc rc
 have LC:=Lib.hid lc
 have RC:=Lib.hid rc
 clear hbig lc rc
 go_enter Tryd.func4,Tryd.ntmps4
 go_wp2_with fail
 rw[<- hz0,<- hB]
 clear hz0 hB
 refine (AL.out _ NZ.out).mono ?_
 rintro e w1 ⟨rfl,n1⟩
 have N1:=Lib.hid (NZ.out.tr n1)
 have B1:=Lib.hid (BB.out.nb n1)
 obtain⟨e0,e1⟩:=B1.out.r2
 clear n1
 go_wp2_with fail
 refine (lawTo_any l0_0 a0_0 cap0_0 a0_1 w1 (HR.out.below N1.out) (by omega)).mono ?_
 rintro e w2 ⟨⟨ax,cx,rfl,ox,gx⟩,n2⟩
 obtain⟨y2,hy2⟩:∃ y2,y2=w2.alloc (.cells #[.slice ax l0_0.length cx,.bool a0_1] 32):=⟨_,rfl⟩
 obtain⟨BXn,hBX⟩:∃ BXn,BXn=w2.heap.size:=⟨_,rfl⟩
 have m2:Nb w2 y2:=by rw[hy2];exact Nb.rfl.al _
 have X2:=Lib.hid (show Blk y2 BXn #[.slice ax l0_0.length cx,.bool a0_1] 32 by rw[hy2,hBX];exact Blk.new _ _ _)
 have OX:=Lib.hid (ox.nb m2)
 have N2:=Lib.hid (N1.out.tr (n2.tr m2))
 have B2:=Lib.hid (B1.out.nb (n2.tr m2))
 clear n2 m2 ox gx e0 e1
 go_wp2_with fail
 rw[<- hy2,<- hBX]
 clear hy2 hBX
 refine (LC.out ax cx y2 OX.out.rls.2).mono ?_
 rintro e w3 ⟨⟨M,am,cm,hM,rfl,om,gm⟩,n3⟩
 obtain⟨y3,hy3⟩:∃ y3,y3=w3.alloc (.cells #[.slice am M.length cm,.bool ev] 32):=⟨_,rfl⟩
 obtain⟨BAn,hBA⟩:∃ BAn,BAn=w3.heap.size:=⟨_,rfl⟩
 have m3:Nb w3 y3:=by rw[hy3];exact Nb.rfl.al _
 have A3:=Lib.hid (show Blk y3 BAn #[.slice am M.length cm,.bool ev] 32 by rw[hy3,hBA];exact Blk.new _ _ _)
 have OM:=Lib.hid (om.nb m3)
 have GM:=Lib.hid gm
 have HM:=Lib.hid hM
 have hMl:M.length<=200:=by
  rw[hM]
  split
  ·exact Nat.le_trans (least_len _ _) hle
  ·simp
 have N3:=Lib.hid (N2.out.tr (n3.tr m3))
 have B3:=Lib.hid (B2.out.nb (n3.tr m3))
 have X3:=Lib.hid (X2.out.nb (n3.tr m3))
 have OX3:=Lib.hid (OX.out.nb (n3.tr m3))
 have HG:=Lib.hid (show ∀ g,Value.ownBlock (.slice am M.length cm)=some g->g < BAn/\y2.heap.size<=g from fun g e=>⟨by rw[hBA];exact om.lt e,gm g e⟩)
 obtain⟨e0,e1⟩:=(B2.out.nb n3).r2
 have hBw3:B < w3.heap.size:=(B2.out.nb n3).lt
 clear n3 m3 om gm hM
 go_wp2_with fail
 rw[<- hy3,<- hBA]
 clear hy3 hBA e0 e1 hBw3
 refine (RC.out a0_0 cap0_0 y3 (HR.out.below N3.out)).mono ?_
 rintro e w4 ⟨⟨M',ar,cr,hM',rfl,or',gr⟩,n4⟩
 obtain rfl:M'=M:=by rw[hM',HM.out]
 obtain⟨y4,hy4⟩:∃ y4,y4=w4.alloc (.cells #[.slice ar M'.length cr,.bool ev] 24):=⟨_,rfl⟩
 obtain⟨BCn,hBC⟩:∃ BCn,BCn=w4.heap.size:=⟨_,rfl⟩
 have m4:Nb w4 y4:=by rw[hy4];exact Nb.rfl.al _
 have C4:=Lib.hid (show Blk y4 BCn #[.slice ar M'.length cr,.bool ev] 24 by rw[hy4,hBC];exact Blk.new _ _ _)
 have OR:=Lib.hid (or'.nb m4)
 have N4:=Lib.hid (N3.out.tr (n4.tr m4))
 have B4:=Lib.hid (B3.out.nb (n4.tr m4))
 have X4:=Lib.hid (X3.out.nb (n4.tr m4))
 have A4:=Lib.hid (A3.out.nb (n4.tr m4))
 have OX4:=Lib.hid (OX3.out.nb (n4.tr m4))
 have OM4:=Lib.hid (OM.out.nb (n4.tr m4))
 clear n4 m4 or' gr hM' HM
 have qer:((er:Int) != (er:Int))=false:=by simp
 have FR:=Lib.hid (fun w' (n:Nb y4 w')=>lawFrom_any M' am cm ev w' (OM4.out.nb n).rls.2 (by omega))
 have SM:=Lib.hid (fun (af:Option Addr) (cf:Nat) w' (n:Nb y4 w') (hf:Rls w' af cf M')=>refsame15_any M' af ar cf cr ev w' hf (OR.out.nb n).rls.2)
 have KA:=Lib.hid (fun w' (n:Nb y4 w')=>And.intro (A4.out.nb n).r2 (C4.out.nb n).r2)
 obtain⟨p0,p1⟩:=A4.out.r2
 obtain⟨q0,q1⟩:=C4.out.r2
 go_wp2_with fail
 rw[<- hy4,<- hBC]
 clear hy4 hBC
 go_region_held3 (fun w'=>w'.cell? ⟨BAn,0,none⟩=some (.slice am M'.length cm)/\w'.cell? ⟨BAn,1,none⟩=some (.bool ev)/\w'.cell? ⟨BCn,0,none⟩=some (.slice ar M'.length cr)/\w'.cell? ⟨BCn,1,none⟩=some (.bool ev))
  (first | go_keep | exact⟨(KA.out _ (Nb.tr (Below.drew (Below.refl _ _):Nb y4 y4.drew) n5)).1.1,(KA.out _ (Nb.tr (Below.drew (Below.refl _ _):Nb y4 y4.drew) n5)).1.2,(KA.out _ (Nb.tr (Below.drew (Below.refl _ _):Nb y4 y4.drew) n5)).2.1,(KA.out _ (Nb.tr (Below.drew (Below.refl _ _):Nb y4 y4.drew) n5)).2.2⟩ | exact⟨(KA.out _ (Nb.tr (Nb.tr (Below.drew (Below.refl _ _):Nb y4 y4.drew) n5) n6)).1.1,(KA.out _ (Nb.tr (Nb.tr (Below.drew (Below.refl _ _):Nb y4 y4.drew) n5) n6)).1.2,(KA.out _ (Nb.tr (Nb.tr (Below.drew (Below.refl _ _):Nb y4 y4.drew) n5) n6)).2.1,(KA.out _ (Nb.tr (Nb.tr (Below.drew (Below.refl _ _):Nb y4 y4.drew) n5) n6)).2.2⟩)
  (first
   | (go_at_call 22;refine (FR.out _ (Below.drew (Below.refl _ _):Nb y4 y4.drew)).mono ?_;rintro e w5 ⟨⟨af,cf,rfl,of',gf⟩,n5⟩)
   | (go_at_call 21;refine (SM.out _ _ _ (Nb.tr (Below.drew (Below.refl _ _):Nb y4 y4.drew) n5) of'.rls.2).mono ?_;rintro e w6 ⟨rfl,n6⟩))
 have N6:=Lib.hid (show Nb y4 w6 from Nb.tr (Nb.tr (Below.drew (Below.refl _ _):Nb y4 y4.drew) n5) n6)
 have A6:=Lib.hid (A4.out.nb N6.out)
 have OM6:=Lib.hid (OM4.out.nb N6.out)
 have X6:=Lib.hid (X4.out.nb N6.out)
 have OX6:=Lib.hid (OX4.out.nb N6.out)
 have B6:=Lib.hid (B4.out.nb N6.out)
 have NW6:=Lib.hid (N4.out.tr N6.out)
 have HXL:=Lib.hid (show ∀ g,Value.ownBlock (.slice ax l0_0.length cx)=some g->g < y2.heap.size from fun g e=>OX.out.lt e)
 have hXB:BXn < y2.heap.size:=X2.out.lt
 have hBB:B < y2.heap.size:=B2.out.lt
 have hwy:w.heap.size<=y2.heap.size:=N2.out.size
 clear p0 p1 q0 q1 n5 n6 of' gf
 obtain⟨p0,p1⟩:=A6.out.r2
 obtain⟨am',cm',hve,hva,-,-,-⟩:=OM6.out.shape
 simp only[Value.slice.injEq,true_and] at hve
 obtain⟨rfl,rfl⟩:=hve
 have HVA:=Lib.hid hva
 clear hva KA FR SM
 go_wp2
 go_loopw [40] (fun ix wr=>∃ (k:Nat) (M2:List Rl),k<=M'.length/\ix = .int .i64 k/\M2.length=M'.length/\OwnR wr (.slice am M'.length cm) M2/\Kp (fun b=>Value.ownBlock (.slice am M'.length cm)=some b) w6 wr) (fun ix _=>M'.length - (intOf ix).toNat)
 case atStart=>exact⟨0,M',Nat.zero_le _,rfl,rfl,OM6.out,Kp.rfl⟩
 case round =>
  obtain⟨k,M2,hk,rfl,hm2,ho,hn⟩:=hrel
  have OI:=Lib.hid ho
  have KI:=Lib.hid hn
  have NB:=Lib.hid (show Nb w wr from NW6.out.trans (hn.toBelow NW6.out.size (fun g e=>Nat.le_trans hwy (HG.out g e).2)))
  have AI:=Lib.hid (A6.out.keep hn (fun e=>by have:=(HG.out _ e).1;omega))
  have XI:=Lib.hid (X6.out.keep hn (fun e=>by have:=(HG.out _ e).2;omega))
  have BI:=Lib.hid (B6.out.keep hn (fun e=>by have:=(HG.out _ e).2;omega))
  have OXI:=Lib.hid (OX6.out.keep hn (fun g e q=>by have:=(HG.out _ q).2;have:=HXL.out g e;omega))
  have HM2:=Lib.hid hm2
  clear ho hn hm2 p0 p1
  obtain⟨p0,p1⟩:=AI.out.r2
  by_cases hlt:k < M'.length
  ·obtain⟨g,rfl⟩:=HVA.out (by omega)
   have hrw:=OI.out.rw.2
   have hk2:k < M2.length:=by rw[HM2.out];exact hlt
   obtain⟨r,hr⟩:∃ r,M2.getD k dRl=r:=⟨_,rfl⟩
   have hc:=hrw.cell hk2 (i:=0) (u := .int .i64 r.K) (by rw[hr];rfl)
   rw[Nat.add_zero] at hc
   obtain⟨c0,f0⟩:=hc
   have HS:=Lib.hid (hrw.set hk2 (i:=0) (by omega) (.int .i64 0) { r with K:=0 } (by
    have hw:=OI.out.2 r (by rw[<- hr];exact Rl.mem hk2)
    exact⟨show (Lit.int .i64 0).wf=true by decide +kernel,hw.I,hw.IM,hw.S,hw.SM,hw.V,hw.VM,hw.A,hw.AM⟩) (fun q hq=>by
    rw[hr]
    rcases (by omega:q=0\/q=1\/q=2\/q=3\/q=4\/q=5\/q=6\/q=7\/q=8\/q=9) with rfl | rfl | rfl | rfl | rfl | rfl | rfl | rfl | rfl | rfl<;>rfl))
   have hi:(k:Int) < (M'.length:Int):=by omega
   have hgw:g < wr.heap.size:=OI.out.lt rfl
   clear hrw hr
   go_wp2
   go_roundw
   case rel=>exact⟨k+1,M2.set k { r with K:=0 },by omega,by go_num,by rw[List.length_set];exact HM2.out,by
    have h1:=HS.out.own
    rw[List.length_set,HM2.out,Nat.add_zero] at h1
    exact h1,KI.out.tr (Kp.set (F:=fun b=>Value.ownBlock (.slice (some ⟨g,0,none⟩) M'.length cm)=some b) rfl) (fun _ e => .inl e)⟩
   case measure=>simp[intOf];omega
  ·obtain rfl:k=M'.length:=by omega
   have FR:=Lib.hid (fun w' (n:Nb wr w')=>lawFrom_any l0_0 ax cx a0_1 w' (OXI.out.nb n).rls.2 (by omega))
   have SM:=Lib.hid (fun (af:Option Addr) (cf:Nat) w' (n:Nb wr w') (hf:Rls w' af cf l0_0)=>refsame15_any l0_0 af a0_0 cf cap0_0 a0_1 w' hf (HR.out.below (NB.out.tr n)))
   have KA:=Lib.hid (fun w' (n:Nb wr w')=>And.intro (XI.out.nb n).r2 (BI.out.nb n).r2)
   obtain⟨q0,q1⟩:=XI.out.r2
   obtain⟨s0,s1⟩:=BI.out.r2
   clear p0 p1
   go_wp2_with fail
   go_region_held3 (fun w'=>w'.cell? ⟨BXn,0,none⟩=some (.slice ax l0_0.length cx)/\w'.cell? ⟨BXn,1,none⟩=some (.bool a0_1)/\w'.cell? ⟨B,0,none⟩=some (.slice a0_0 l0_0.length cap0_0)/\w'.cell? ⟨B,1,none⟩=some (.bool a0_1))
    (first | go_keep | exact⟨(KA.out _ (Nb.tr (Below.drew (Below.refl _ _):Nb wr wr.drew) n5)).1.1,(KA.out _ (Nb.tr (Below.drew (Below.refl _ _):Nb wr wr.drew) n5)).1.2,(KA.out _ (Nb.tr (Below.drew (Below.refl _ _):Nb wr wr.drew) n5)).2.1,(KA.out _ (Nb.tr (Below.drew (Below.refl _ _):Nb wr wr.drew) n5)).2.2⟩ | exact⟨(KA.out _ (Nb.tr (Nb.tr (Below.drew (Below.refl _ _):Nb wr wr.drew) n5) n7)).1.1,(KA.out _ (Nb.tr (Nb.tr (Below.drew (Below.refl _ _):Nb wr wr.drew) n5) n7)).1.2,(KA.out _ (Nb.tr (Nb.tr (Below.drew (Below.refl _ _):Nb wr wr.drew) n5) n7)).2.1,(KA.out _ (Nb.tr (Nb.tr (Below.drew (Below.refl _ _):Nb wr wr.drew) n5) n7)).2.2⟩)
    (first
     | (go_at_call 22;refine (FR.out _ (Below.drew (Below.refl _ _):Nb wr wr.drew)).mono ?_;rintro e w5 ⟨⟨af,cf,rfl,of',gf⟩,n5⟩)
     | (go_at_call 21;refine (SM.out _ _ _ (Nb.tr (Below.drew (Below.refl _ _):Nb wr wr.drew) n5) of'.rls.2).mono ?_;rintro e w7 ⟨rfl,n7⟩))
   go_wp2
   go_ret
   exact⟨rfl,NB.out.tr (Nb.tr (Nb.tr (Below.drew (Below.refl _ _):Nb wr wr.drew) n5) n7)⟩
theorem door_met (os:Os) (args:Array Value):laidMetH Tryd.prog Rows.filterLeastRow.laid ((World.doorLaid Tryd.prog 14 os).forCall (fun _ _=>0) ⟨#[],args,[]⟩).memory :=
 laidMetH_of_parts3 (fuel:=8) (laidMet_of_run' 8 (by kernel_rfl) (by kernel_rfl)) (by kernel_rfl) (by kernel_rfl)
theorem lifted (os:Os) (started:os.Started) (H:Type) (enc:TypeId × Value->H) :
    ReturnsInHanded {} Tryd.checked os 4 .any (fun w args=>(Rows.filterLeastSpec.pre enc Tryd.prog Tryd.f4 [] false w args/\laidMetH Tryd.prog Rows.filterLeastRow.laid w)/\sizedMet enc Tryd.prog Tryd.f4 (OpenSpec.ofChange Rows.filterLeastSpec) false w args)
     (Rows.filterLeastSpec.post enc Tryd.prog Tryd.f4 false true false false):=by
 refine returnsInHanded_of_change_and (C:=Tryd.checked) (X:=fun w _=>laidMetH Tryd.prog Rows.filterLeastRow.laid w) (fun _ _ _ hh h=>h.of_heap hh) own started (by kernel_rfl) Tryd.func4
  (ChangeSpec.witness_shaped (enc:=enc) (C:=Tryd.checked) (os:=os) (X:=fun w _=>laidMetH Tryd.prog Rows.filterLeastRow.laid w) false (World.doorLaid Tryd.prog 14 os) #[.agg #[.slice none 0 0,.bool false]] 8 rfl (World.shaped_of_RefB (by kernel_rfl) (by kernel_rfl)) (by kernel_rfl) (by kernel_rfl) (by kernel_rfl) (door_met os _)) ?_
 intro W base args ds gs before hval0 hW _ hR hL _
 have hval:∀ (j:Nat) t v,Tryd.f4.params[j]? = some t->args[j]? = some v->Value.okWide Tryd.prog W .any base t v:=hval0
 have hW':=hW
 obtain⟨p,q,hA0,hV,rfl,hfz,hnd⟩:=hW
 have hA:DataW.TrodAll enc Tryd.prog W 0 (fun _=>true) true Tryd.f4.params.toList args.toList ds p:=hA0
 rw[Tryd.params4] at hA hval
 obtain⟨v0,vs0,d0,ds0,p0,q0,hargs,rfl,rfl,h0,r0⟩:=trodAll_cons hA
 obtain⟨rfl,rfl,rfl⟩:=trodAll_nil r0
 obtain rfl:args=#[v0]:=by cases args;simp_all
 obtain⟨rfl,rfl⟩:=trodVars_none hV
 have k0:=h0
 have lt0:∀ x∈p0,x.block < W.heap.size:=by obtain⟨m,hm⟩:=k0;exact DataW.trod_lt m _ _ _ hm
 clear hA0
 rw[Tryd.params4] at hR
 have hR0:(DataW.weightsEach Tryd.prog ([24]++Rows.filterLeastSpec.plain.varTypes Tryd.prog) ([d0]++[])).all (·<=reachBytes)=true:=hR
 simp only[List.cons_append,List.nil_append,DataW.weightsEach,List.append_nil,List.all_append,Bool.and_eq_true] at hR0
 obtain⟨hR0,_⟩:=hR0
 obtain⟨cs0,rfl,hz0⟩:=okWide_struct Tryd.underlying24 (hval 0 24 v0 rfl rfl)
 obtain⟨c0_0,c0_1,rfl⟩:=arr2 (hz0.trans (by kernel_rfl))
 obtain⟨fu0,hf0⟩:=h0
 have hc0:DataW.trod enc Tryd.prog W 0 (fun _=>true) true fu0 24 [c0_0,c0_1]=some (d0,p0):=hf0
 obtain⟨a0_0,cap0_0,l0_0,a0_1,e0_0,e0_1,hb0_0,n0_0,rr0_0⟩:=bank_open hc0 hR0
 subst e0_0 e0_1
 refine (walk W (longer_of hL) a0_0 cap0_0 l0_0 hb0_0 n0_0 rr0_0 a0_1).mono fun e W' ⟨he,bel⟩ => ?_
 subst he
 exact⟨_,rfl,_,_,_,[],_,[],hW',trodAll_mk1 (shut_bool Tryd.underlying4 _),(trodAll_cons_mk (Below.trod laidOut (by kernel_rfl) (of_decide_eq_true (by kernel_rfl)) k0 bel lt0) trodAll_mk0),rfl,bel.frame _,fun h=>by cases h⟩
theorem over:Rows.filterLeastRow.holds Tryd.pinned (OpenSpec.ofChange Rows.filterLeastSpec) :=
 OpenClaim.holds_of_wide 4 Tryd.f4 rfl rfl rfl rfl rfl rfl rfl ⟨rfl,rfl,rfl,rfl,rfl⟩ rfl rfl rfl rfl rfl (by kernel_rfl) Tryd.func4 (by kernel_rfl)
  (of_decide_eq_true (by kernel_rfl)) (by unfold Func.isWrapper;first | (rw[if_pos (by decide +kernel)];kernel_rfl) | (rw[if_neg (by decide +kernel)];exact⟨rfl,rfl⟩))
  (fun os started H enc _=>lifted os started H enc)
theorem plain (f : FuncId) (fn : Func) (hf : Tryd.pinned.checked.prog.funcNamed "omnibus/omnibuslaw15.FilterLeast" = some f) (hfn : Tryd.pinned.checked.prog.funcs[f]? = some fn) :
    false=Tryd.pinned.checked.prog.looks []/\∀ (j:Nat) t,fn.params[j]? = some t->Tryd.pinned.checked.prog.wantsStandIn t=false:=by
 obtain rfl : f = 4 := Option.some.inj ((show Tryd.prog.funcNamed "omnibus/omnibuslaw15.FilterLeast" = some 4 by kernel_rfl).symm.trans hf) |>.symm
 obtain rfl:fn=Tryd.f4:=(Option.some.inj (Tryd.func4.symm.trans hfn)).symm
 refine⟨by kernel_rfl,fun j t ht => ?_⟩
 rw[Tryd.params4] at ht
 have hm:t∈[24]:=by have:=Array.mem_of_getElem? ht;simp at this ⊢;omega
 have hall:([24].all fun u => !Tryd.prog.wantsStandIn u)=true:=by kernel_rfl
 exact (show Tryd.prog.wantsStandIn t=false by simpa using List.all_eq_true.1 hall t hm)
theorem proved:Rows.FilterLeastCardSaid :=
 Claim7.holds_tied_plain_at .later [] _ _ _ _ over (fun _ h=>by cases h) (by kernel_rfl) (fun _ h=>by cases h) filterLeast_row_tie rfl ⟨rfl,rfl⟩ (by kernel_rfl) rfl plain (by kernel_rfl)
#print axioms proved
end Go.Proofs.YtaohmgklhecjbaaDoor.filterLeast
