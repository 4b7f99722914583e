/- For every frame and number the law NodeAlone answers true and leaves its arguments as they were; the package's tables are tied to the program's text. No conditions. -/
import Derived.Test.YtipefblpppmabaaGreatDoorRows
import Derived.Test.YtipefblpppmabaaGreatDoorCards
import Derived.Test.YtipefblpppmabaaGreatDoorTie
import Derived.Test.YtipefblpppmabaaGreatDoorGp
import Derived.Test.YtipefblpppmabaaGreatDoorGj
import Derived.Test.YtipefblpppmabaaGreatDoorGa
import Derived.Test.YtipefblpppmabaaGreatDoorFrmE
import Derived.WalkKit
import Derived.ProofKit
import Derived.OpenShut
import Derived.ShutString
import Derived.ChangeOld
import Derived.Below
import Derived.Carry
import Derived.Lib.SmallJoins
import Derived.Deep.RegionWith
import Derived.Deep.RegionHeld3
import Derived.LaidMore
import Derived.LaidLaws
import Derived.Stop.Joined
import Derived.SevenTiedAt
set_option maxHeartbeats 4000000
set_option maxRecDepth 100000
namespace Go.Proofs.YtipefblpppmabaaGreatDoor.nodeAlone
open Go.ChangeShapes Go.WideShapes Go.ChangeAt Go.RowKit Go.Joins
set_option linter.unusedVariables false
set_option linter.unusedSimpArgs false
theorem own:ownKnob Tryz.prog.godebug=none:=by kernel_rfl
theorem laidOut:laidOutB Tryz.prog=true:=by kernel_rfl
theorem arr11 {α:Type} {cs:Array α} (h:cs.size=11):∃ c0 c1 c2 c3 c4 c5 c6 c7 c8 c9 c10,cs=#[c0,c1,c2,c3,c4,c5,c6,c7,c8,c9,c10]:=by
 obtain⟨l⟩:=cs
 match l,h with
 | [c0,c1,c2,c3,c4,c5,c6,c7,c8,c9,c10],_=>exact⟨c0,c1,c2,c3,c4,c5,c6,c7,c8,c9,c10,rfl⟩
theorem alone_first {f:Hd} {l:List Nat} (h:Fr f l):(Nd.joined true).loadE f l=0/\AloneN f l ((Nd.joined true).load f l)/\((Nd.joined true).load f l).fa=Fa.zero:=by
 have e:(Nd.joined true).loadE f l=0:=by
  unfold Nd.loadE
  rw[h.ok]
  simp[Nd.joined,Nd.new]
 refine⟨e,?_,?_⟩
 ·unfold Nd.load
  rw[if_pos e]
  exact⟨rfl,rfl,rfl,rfl,rfl,(by show (0:Int)<=0;omega),(by show (0:Int)<=128;omega),(by show (0:Int)%8=0;omega),.inl rfl⟩
 ·unfold Nd.load
  rw[if_pos e]
  rfl
theorem walk (w:World) (hK:Both w) (a0_0:Int) (w0_0:(Lit.int .i64 a0_0).wf=true) (a0_1:Int) (w0_1:(Lit.int .u32 a0_1).wf=true) (a0_2:Bool) (a0_3:Bool) (a0_4:Bool) (a0_5:Bool) (a0_6:Bool) (a0_7:Int) (w0_7:(Lit.int .u8 a0_7).wf=true) (a0_8:Int) (w0_8:(Lit.int .u8 a0_8).wf=true) (a0_9:Int) (w0_9:(Lit.int .u32 a0_9).wf=true) (a0_10:Option Addr) (cap0_10:Nat) (l0_10:List Nat) (h0_10:Bs w a0_10 cap0_10 l0_10) (n0_10:a0_10=none->cap0_10=0) (a1:Int) (w1:(Lit.int .u16 a1).wf=true) :
    Calls Tryz.prog 5 #[.agg #[.int .i64 a0_0,.int .u32 a0_1,.bool a0_2,.bool a0_3,.bool a0_4,.bool a0_5,.bool a0_6,.int .u8 a0_7,.int .u8 a0_8,.int .u32 a0_9,.slice a0_10 l0_10.length cap0_10],.int .u16 a1] w fun e w'=>e = .returned (.bool true)/\Nb w w':=by
 have hL0:=h0_10.len
 have hW:WdX ⟨a0_0,a0_1,a0_2,a0_3,a0_4,a0_5,a0_6,a0_7,a0_8,a0_9⟩:=by
  simp[Lit.wf,IntKind.min,IntKind.max,IntKind.signed,IntKind.bits] at w0_1 w0_7 w0_8 w0_9
  simp only[WdX]
  omega
 have hat:0<=a1/\a1 < 65536:=by
  simp[Lit.wf,IntKind.min,IntKind.max,IntKind.signed,IntKind.bits] at w1
  omega
 obtain⟨n,rfl⟩:=Int.eq_ofNat_of_zero_le hat.1
 have hn2:n < 65536:=by omega
 have HK:=Lib.hid hK
 have HA:=Lib.hid h0_10
 have HN0:=Lib.hid n0_10
 have hbB:=Lib.hid h0_10.hbyte
 obtain⟨W0,hW0⟩:∃ W0,W0=w.alloc (.cells #[.int .i64 a0_0,.int .u32 a0_1,.bool a0_2,.bool a0_3,.bool a0_4,.bool a0_5,.bool a0_6,.int .u8 a0_7,.int .u8 a0_8,.int .u32 a0_9,.slice a0_10 l0_10.length cap0_10] 34):=⟨_,rfl⟩
 have QF:=Lib.hid (show Blk W0 w.heap.size #[.int .i64 a0_0,.int .u32 a0_1,.bool a0_2,.bool a0_3,.bool a0_4,.bool a0_5,.bool a0_6,.int .u8 a0_7,.int .u8 a0_8,.int .u32 a0_9,.slice a0_10 l0_10.length cap0_10] 34 by rw[hW0];exact Blk.new _ _ _)
 have M0:=Lib.hid (show Nb w W0 by rw[hW0];exact Nb.rfl.al _)
 have HW0:=Lib.hid hW0
 have F0:=Lib.hid (fun w' (n:Nb w w')=>check5_any ⟨a0_0,a0_1,a0_2,a0_3,a0_4,a0_5,a0_6,a0_7,a0_8,a0_9⟩ a0_10 cap0_10 l0_10 w' (HA.out.below n) (HK.out.below n).longer)
 clear hK h0_10 w0_0 w0_1 w0_7 w0_8 w0_9 n0_10 w1 hat hW0
 cases hok:okF ⟨a0_0,a0_1,a0_2,a0_3,a0_4,a0_5,a0_6,a0_7,a0_8,a0_9⟩ l0_10 with
 | false =>
   rw[show checkN ⟨a0_0,a0_1,a0_2,a0_3,a0_4,a0_5,a0_6,a0_7,a0_8,a0_9⟩ l0_10=2 by simp[checkN,hok]] at F0
   clear hok hW hn2
   simp only[Hd.cs] at F0
   go_enter Tryz.func5,Tryz.ntmps5
   go_wp2_with fail
   rw[<- HW0.out]
   refine (alive12_any _ (HK.out.below M0.out)).mono ?_
   rintro e w1 ⟨rfl,n1⟩
   have Q1:=Lib.hid (QF.out.nb n1)
   have M1:=Lib.hid (M0.out.tr n1)
   clear n1
   obtain⟨c0,c1,c2,c3,c4,c5,c6,c7,c8,c9,c10⟩:=Q1.out.c11
   go_wp2_with fail
   refine (F0.out _ M1.out).mono ?_
   rintro e w2 ⟨rfl,n2⟩
   go_wp2
   go_ret
   exact⟨rfl,M1.out.tr n2⟩
 | true =>
   have hFr:Fr ⟨a0_0,a0_1,a0_2,a0_3,a0_4,a0_5,a0_6,a0_7,a0_8,a0_9⟩ l0_10:=⟨hok,hW,hbB.out⟩
   rw[show checkN ⟨a0_0,a0_1,a0_2,a0_3,a0_4,a0_5,a0_6,a0_7,a0_8,a0_9⟩ l0_10=0 by simp[checkN,hok]] at F0
   clear hok
   by_cases hbig:10 < l0_10.length
   ·have d0:decide ((10:Int) < (l0_10.length:Int))=true:=decide_eq_true (by omega)
    clear hbig hW hn2 hFr
    simp only[Hd.cs] at F0
    go_enter Tryz.func5,Tryz.ntmps5
    go_wp2_with fail
    rw[<- HW0.out]
    refine (alive12_any _ (HK.out.below M0.out)).mono ?_
    rintro e w1 ⟨rfl,n1⟩
    have Q1:=Lib.hid (QF.out.nb n1)
    have M1:=Lib.hid (M0.out.tr n1)
    clear n1
    obtain⟨c0,c1,c2,c3,c4,c5,c6,c7,c8,c9,c10⟩:=Q1.out.c11
    go_wp2_with fail
    refine (F0.out _ M1.out).mono ?_
    rintro e w2 ⟨rfl,n2⟩
    obtain⟨c0,c1,c2,c3,c4,c5,c6,c7,c8,c9,c10⟩:=(Q1.out.nb n2).c11
    go_wp2
    go_ret
    exact⟨rfl,M1.out.tr n2⟩
   have d0:decide ((10:Int) < (l0_10.length:Int))=false:=decide_eq_false (by omega)
   clear hbig
   obtain⟨b1,b2,b3⟩:=alone_first hFr
   have hload:=fun w' v F (h:NodeAt w' v (Nd.joined true) F) (m:Nb w w')=>load12_any v (Nd.joined true) F ⟨a0_0,a0_1,a0_2,a0_3,a0_4,a0_5,a0_6,a0_7,a0_8,a0_9⟩ a0_10 cap0_10 l0_10 w' h (joined_ok true) (HK.out.below m) (HA.out.below m) HN0.out hW
   rw[b1] at hload
   have hok1:=load_ok (joined_ok true) hW hbB.out (fun h=>by cases h)
   have HFr:=Lib.hid hFr
   have HLOAD:=Lib.hid hload
   have HAL:=Lib.hid b2
   have HZ:=Lib.hid b3
   have HOK:=Lib.hid hok1
   clear hload b1 b2 b3 hok1 hFr hW
   simp only[Hd.cs] at F0 HLOAD
   generalize hfe:(⟨a0_0,a0_1,a0_2,a0_3,a0_4,a0_5,a0_6,a0_7,a0_8,a0_9⟩:Hd)=fh at HFr HAL HZ HOK HLOAD
   clear hfe
   go_enter Tryz.func5,Tryz.ntmps5
   go_wp2_with fail
   rw[<- HW0.out]
   refine (alive12_any _ (HK.out.below M0.out)).mono ?_
   rintro e w1 ⟨rfl,n1⟩
   have Q1:=Lib.hid (QF.out.nb n1)
   have M1:=Lib.hid (M0.out.tr n1)
   clear n1
   obtain⟨c0,c1,c2,c3,c4,c5,c6,c7,c8,c9,c10⟩:=Q1.out.c11
   go_wp2_with fail
   refine (F0.out _ M1.out).mono ?_
   rintro e w2 ⟨rfl,n2⟩
   have Q2:=Lib.hid (Q1.out.nb n2)
   have M2:=Lib.hid (M1.out.tr n2)
   clear n2 c0 c1 c2 c3 c4 c5 c6 c7 c8 c9 c10
   obtain⟨c0,c1,c2,c3,c4,c5,c6,c7,c8,c9,c10⟩:=Q2.out.c11
   go_wp2_with fail
   refine (joined12_any true _ (HK.out.below M2.out)).mono ?_
   rintro e w3 ⟨v,rfl,F,h1,h2,h3⟩
   have Q3:=Lib.hid (Q2.out.nb h3)
   have M3:=Lib.hid (M2.out.tr h3)
   have HL3:=Lib.hid (HLOAD.out w3 v F h1 M3.out)
   have H1:=Lib.hid h1
   have H2:=Lib.hid (fun k (hk:F k)=>Nat.le_trans M2.out.size (h2 k hk))
   clear h1 h2 h3 c0 c1 c2 c3 c4 c5 c6 c7 c8 c9 c10
   obtain⟨c0,c1,c2,c3,c4,c5,c6,c7,c8,c9,c10⟩:=Q3.out.c11
   go_wp2_with fail
   refine HL3.out.mono ?_
   rintro e w4 ⟨F4,rfl,g1,g2,g3⟩
   have HN4:Hid (NodeN w w4 v ((Nd.joined true).load fh l0_10)):=Lib.hid (NodeN.turn H1.out H2.out M3.out g1 g2 g3)
   clear g1 g2 g3 c0 c1 c2 c3 c4 c5 c6 c7 c8 c9 c10 H1 H2 HL3
   go_wp2
   go_loopw [6,29] (fun lv ix wr=>∃ (k:Nat) (nd:Nd),k<=n%6000/\ix = .int .i64 k/\lv = .int .i64 nd.fa.T/\NodeN w wr v nd/\AloneN fh l0_10 nd/\nd.Ok) (fun _ ix _=>n%6000 - (intOf ix).toNat)
   case atStart=>exact⟨0,_,Nat.zero_le _,rfl,by rw[HZ.out];rfl,HN4.out,HAL.out,HOK.out⟩
   case round =>
    obtain⟨k,nd,hk,rfl,rfl,⟨F5,h1,h2,h3⟩,hal,hok⟩:=hrel
    have N5:=Lib.hid h3
    have HF5:=Lib.hid h2
    have H1:=Lib.hid h1
    have HA5:=Lib.hid hal
    have HO5:=Lib.hid hok
    have HB5:=Lib.hid (HK.out.below h3)
    clear h1 h2 h3 hal hok HN4
    by_cases hlt:k < n%6000
    ·have hlt':decide ((k:Int) < (n:Int)%6000)=true:=decide_eq_true (by omega)
     have hout:=out12_any v nd F5 wr H1.out HO5.out HB5.out
     obtain⟨s1,s2,s3⟩:=alone_step HFr.out HA5.out
     have hle:=out_le HO5.out
     have hsamp:=fun w' (m:Nb wr w')=>samp12_any v nd F5 nd.out w' (node_keep H1.out (Kp.ofNb (F:=fun _=>False) m) (by simp)) HO5.out (fun h3=>by rcases HA5.out.ph with h | h | h | h | h | h<;>omega) (HB5.out.below m) hle
     have hok6:=(step_ok HO5.out hle).ok
     generalize hstep:nd.step nd.out=r at hsamp hok6 s1 s2 s3
     obtain⟨n6,⟨ek,ee,⟨gK,gI,gX,gR,gB,gE,gS,gD,gV,gA⟩,el⟩⟩:=r
     have HST:=Lib.hid hstep
     clear hstep
     generalize nd.out=ob at hout hsamp hle
     have HSA:=Lib.hid hsamp
     have HOU:=Lib.hid hout
     have HA6:=Lib.hid s1
     have HO6:=Lib.hid hok6
     have hT6:nd.fa.T<=n6.fa.T:=s3
     have hT128:n6.fa.T<=128:=s1.T1
     generalize nd.fa.T=Told at *
     clear hsamp hout s1 hok6 s3 HST
     go_wp2_with fail
     refine HOU.out.mono ?_
     rintro e w6 ⟨rfl,q6⟩
     have HS6:=Lib.hid (HSA.out _ q6)
     have N6:=Lib.hid (N5.out.tr q6)
     have H6:=Lib.hid (node_keep H1.out (Kp.ofNb (F:=fun _=>False) q6) (by simp))
     clear q6 HSA HOU
     go_wp2_with fail
     refine HS6.out.mono ?_
     rintro e w7 ⟨F7,⟨a,c,rfl,_,_⟩,g1,g2,g3⟩
     have HN7:Hid (NodeN w w7 v n6):=Lib.hid (NodeN.turn H6.out HF5.out N6.out g1 g2 g3)
     clear g1 g2 g3 H6 HS6
     obtain⟨F8,j1,j2,j3⟩:=HN7.out
     have hst:=fun w' (m:Nb w7 w')=>state12_any v n6 F8 w' (node_keep j1 (Kp.ofNb (F:=fun _=>False) m) (by simp)) HO6.out (HK.out.below (j3.tr m))
     have N7:=Lib.hid j3
     simp only[stV] at hst
     rw[HA6.out.R,HA6.out.O,HA6.out.has] at hst
     have HSTA:=Lib.hid hst
     clear hst j1 j2 j3
     have d128:decide (128 < n6.fa.T)=false:=decide_eq_false (by omega)
     have dT:decide (n6.fa.T < Told)=false:=decide_eq_false (by omega)
     obtain⟨T6,hT6e⟩:∃ T6,T6=n6.fa.T:=⟨_,rfl⟩
     rw[<- hT6e] at HSTA d128 dT
     have HT6:=Lib.hid hT6e
     generalize (n6.ph:Nat)=p6 at HSTA
     generalize (n6.count:Nat)=c6 at HSTA
     clear hT6e hT6 hT128
     simp only[evV,staV]
     have s2':(ek=0)\/(ek=4/\ee=9):=s2
     clear s2
     rcases s2' with rfl | ⟨rfl,rfl⟩
     all_goals go_wp2_with fail
     all_goals refine (HSTA.out _ (Nb.rfl.al _)).mono ?_
     all_goals rintro e w8 ⟨rfl,n8⟩
     all_goals have M8:=Lib.hid ((Nb.rfl.al _).tr n8:Nb w7 w8)
     all_goals clear n8
     all_goals go_wp2
     all_goals go_roundw
     all_goals first
      | exact⟨k+1,n6,by omega,by go_num,by rw[HT6.out],HN7.out.keep (M8.out.al _),HA6.out,HO6.out⟩
      | (simp[intOf];omega)
    ·have hlt':decide ((k:Int) < (n:Int)%6000)=false:=decide_eq_false (by omega)
     go_wp2
     go_ret
     exact⟨rfl,N5.out⟩
theorem door_met (os:Os) (args:Array Value):laidMetH Tryz.prog Rows.nodeAloneRow.laid ((World.doorLaid Tryz.prog 24 os).forCall (fun _ _=>0) ⟨#[],args,[]⟩).memory :=
 laidMetH_of_parts3 (fuel:=8) (laidMet_of_run' 8 (by kernel_rfl) (by kernel_rfl)) (by kernel_rfl) (by kernel_rfl)
theorem lifted (os:Os) (started:os.Started) (H:Type) (enc:TypeId × Value->H) :
    ReturnsInHanded {} Tryz.checked os 5 .any (fun w args=>(Rows.nodeAloneSpec.pre enc Tryz.prog Tryz.f5 [] false w args/\laidMetH Tryz.prog Rows.nodeAloneRow.laid w)/\sizedMet enc Tryz.prog Tryz.f5 (OpenSpec.ofChange Rows.nodeAloneSpec) false w args)
     (Rows.nodeAloneSpec.post enc Tryz.prog Tryz.f5 false true false false):=by
 refine returnsInHanded_of_change_and (C:=Tryz.checked) (X:=fun w _=>laidMetH Tryz.prog Rows.nodeAloneRow.laid w) (fun _ _ _ hh h=>h.of_heap hh) own started (by kernel_rfl) Tryz.func5
  (ChangeSpec.witness_shaped (enc:=enc) (C:=Tryz.checked) (os:=os) (X:=fun w _=>laidMetH Tryz.prog Rows.nodeAloneRow.laid w) false (World.doorLaid Tryz.prog 24 os) #[.agg #[.int .i64 0,.int .u32 0,.bool false,.bool false,.bool false,.bool false,.bool false,.int .u8 0,.int .u8 0,.int .u32 0,.slice none 0 0],.int .u16 0] 8 rfl (World.shaped_of_RefB (by kernel_rfl) (by kernel_rfl)) (by kernel_rfl) (by kernel_rfl) (by kernel_rfl) (door_met os _)) ?_
 intro W base args ds gs before hval0 hW _ hR hL _
 have hval:∀ (j:Nat) t v,Tryz.f5.params[j]? = some t->args[j]? = some v->Value.okWide Tryz.prog W .any base t v:=hval0
 have hW':=hW
 obtain⟨p,q,hA0,hV,rfl,hfz,hnd⟩:=hW
 have hA:DataW.TrodAll enc Tryz.prog W 0 (fun _=>true) true Tryz.f5.params.toList args.toList ds p:=hA0
 rw[Tryz.params5] at hA hval
 obtain⟨v0,vs0,d0,ds0,p0,q0,hargs,rfl,rfl,h0,r0⟩:=trodAll_cons hA
 obtain⟨v1,vs1,d1,ds1,p1,q1,rfl,rfl,rfl,h1,r1⟩:=trodAll_cons r0
 obtain⟨rfl,rfl,rfl⟩:=trodAll_nil r1
 obtain rfl:args=#[v0,v1]:=by cases args;simp_all
 obtain⟨rfl,rfl⟩:=trodVars_none hV
 have k0:=h0
 have lt0:∀ x∈p0,x.block < W.heap.size:=by obtain⟨m,hm⟩:=k0;exact DataW.trod_lt m _ _ _ hm
 have k1:=h1
 have lt1:∀ x∈p1,x.block < W.heap.size:=by obtain⟨m,hm⟩:=k1;exact DataW.trod_lt m _ _ _ hm
 clear hA0
 obtain⟨cs0,rfl,hz0⟩:=okWide_struct Tryz.underlying34 (hval 0 34 v0 rfl rfl)
 obtain⟨c0_0,c0_1,c0_2,c0_3,c0_4,c0_5,c0_6,c0_7,c0_8,c0_9,c0_10,rfl⟩:=arr11 (hz0.trans (by kernel_rfl))
 obtain⟨fu0,hf0⟩:=h0
 have hc0:DataW.trod enc Tryz.prog W 0 (fun _=>true) true fu0 34 [c0_0,c0_1,c0_2,c0_3,c0_4,c0_5,c0_6,c0_7,c0_8,c0_9,c0_10]=some (d0,p0):=hf0
 obtain⟨m0_0,y0_0,g0_0⟩:=open_fld Tryz.underlying34 hc0 0 _ rfl
 have t0_0:DataW.trod enc Tryz.prog W 0 (fun _=>true) true m0_0 3 (([c0_0,c0_1,c0_2,c0_3,c0_4,c0_5,c0_6,c0_7,c0_8,c0_9,c0_10].drop 0).take (Tryz.prog.cellsOf 3))=some y0_0:=g0_0
 rw[show Tryz.prog.cellsOf 3=1 from by kernel_rfl] at t0_0
 have u0_0:DataW.trod enc Tryz.prog W 0 (fun _=>true) true m0_0 3 [c0_0]=some y0_0:=t0_0
 obtain⟨m0_1,y0_1,g0_1⟩:=open_fld Tryz.underlying34 hc0 1 _ rfl
 have t0_1:DataW.trod enc Tryz.prog W 0 (fun _=>true) true m0_1 31 (([c0_0,c0_1,c0_2,c0_3,c0_4,c0_5,c0_6,c0_7,c0_8,c0_9,c0_10].drop 1).take (Tryz.prog.cellsOf 31))=some y0_1:=g0_1
 rw[show Tryz.prog.cellsOf 31=1 from by kernel_rfl] at t0_1
 have u0_1:DataW.trod enc Tryz.prog W 0 (fun _=>true) true m0_1 31 [c0_1]=some y0_1:=t0_1
 obtain⟨m0_2,y0_2,g0_2⟩:=open_fld Tryz.underlying34 hc0 2 _ rfl
 have t0_2:DataW.trod enc Tryz.prog W 0 (fun _=>true) true m0_2 4 (([c0_0,c0_1,c0_2,c0_3,c0_4,c0_5,c0_6,c0_7,c0_8,c0_9,c0_10].drop 2).take (Tryz.prog.cellsOf 4))=some y0_2:=g0_2
 rw[show Tryz.prog.cellsOf 4=1 from by kernel_rfl] at t0_2
 have u0_2:DataW.trod enc Tryz.prog W 0 (fun _=>true) true m0_2 4 [c0_2]=some y0_2:=t0_2
 obtain⟨m0_3,y0_3,g0_3⟩:=open_fld Tryz.underlying34 hc0 3 _ rfl
 have t0_3:DataW.trod enc Tryz.prog W 0 (fun _=>true) true m0_3 4 (([c0_0,c0_1,c0_2,c0_3,c0_4,c0_5,c0_6,c0_7,c0_8,c0_9,c0_10].drop 3).take (Tryz.prog.cellsOf 4))=some y0_3:=g0_3
 rw[show Tryz.prog.cellsOf 4=1 from by kernel_rfl] at t0_3
 have u0_3:DataW.trod enc Tryz.prog W 0 (fun _=>true) true m0_3 4 [c0_3]=some y0_3:=t0_3
 obtain⟨m0_4,y0_4,g0_4⟩:=open_fld Tryz.underlying34 hc0 4 _ rfl
 have t0_4:DataW.trod enc Tryz.prog W 0 (fun _=>true) true m0_4 4 (([c0_0,c0_1,c0_2,c0_3,c0_4,c0_5,c0_6,c0_7,c0_8,c0_9,c0_10].drop 4).take (Tryz.prog.cellsOf 4))=some y0_4:=g0_4
 rw[show Tryz.prog.cellsOf 4=1 from by kernel_rfl] at t0_4
 have u0_4:DataW.trod enc Tryz.prog W 0 (fun _=>true) true m0_4 4 [c0_4]=some y0_4:=t0_4
 obtain⟨m0_5,y0_5,g0_5⟩:=open_fld Tryz.underlying34 hc0 5 _ rfl
 have t0_5:DataW.trod enc Tryz.prog W 0 (fun _=>true) true m0_5 4 (([c0_0,c0_1,c0_2,c0_3,c0_4,c0_5,c0_6,c0_7,c0_8,c0_9,c0_10].drop 5).take (Tryz.prog.cellsOf 4))=some y0_5:=g0_5
 rw[show Tryz.prog.cellsOf 4=1 from by kernel_rfl] at t0_5
 have u0_5:DataW.trod enc Tryz.prog W 0 (fun _=>true) true m0_5 4 [c0_5]=some y0_5:=t0_5
 obtain⟨m0_6,y0_6,g0_6⟩:=open_fld Tryz.underlying34 hc0 6 _ rfl
 have t0_6:DataW.trod enc Tryz.prog W 0 (fun _=>true) true m0_6 4 (([c0_0,c0_1,c0_2,c0_3,c0_4,c0_5,c0_6,c0_7,c0_8,c0_9,c0_10].drop 6).take (Tryz.prog.cellsOf 4))=some y0_6:=g0_6
 rw[show Tryz.prog.cellsOf 4=1 from by kernel_rfl] at t0_6
 have u0_6:DataW.trod enc Tryz.prog W 0 (fun _=>true) true m0_6 4 [c0_6]=some y0_6:=t0_6
 obtain⟨m0_7,y0_7,g0_7⟩:=open_fld Tryz.underlying34 hc0 7 _ rfl
 have t0_7:DataW.trod enc Tryz.prog W 0 (fun _=>true) true m0_7 5 (([c0_0,c0_1,c0_2,c0_3,c0_4,c0_5,c0_6,c0_7,c0_8,c0_9,c0_10].drop 7).take (Tryz.prog.cellsOf 5))=some y0_7:=g0_7
 rw[show Tryz.prog.cellsOf 5=1 from by kernel_rfl] at t0_7
 have u0_7:DataW.trod enc Tryz.prog W 0 (fun _=>true) true m0_7 5 [c0_7]=some y0_7:=t0_7
 obtain⟨m0_8,y0_8,g0_8⟩:=open_fld Tryz.underlying34 hc0 8 _ rfl
 have t0_8:DataW.trod enc Tryz.prog W 0 (fun _=>true) true m0_8 5 (([c0_0,c0_1,c0_2,c0_3,c0_4,c0_5,c0_6,c0_7,c0_8,c0_9,c0_10].drop 8).take (Tryz.prog.cellsOf 5))=some y0_8:=g0_8
 rw[show Tryz.prog.cellsOf 5=1 from by kernel_rfl] at t0_8
 have u0_8:DataW.trod enc Tryz.prog W 0 (fun _=>true) true m0_8 5 [c0_8]=some y0_8:=t0_8
 obtain⟨m0_9,y0_9,g0_9⟩:=open_fld Tryz.underlying34 hc0 9 _ rfl
 have t0_9:DataW.trod enc Tryz.prog W 0 (fun _=>true) true m0_9 31 (([c0_0,c0_1,c0_2,c0_3,c0_4,c0_5,c0_6,c0_7,c0_8,c0_9,c0_10].drop 9).take (Tryz.prog.cellsOf 31))=some y0_9:=g0_9
 rw[show Tryz.prog.cellsOf 31=1 from by kernel_rfl] at t0_9
 have u0_9:DataW.trod enc Tryz.prog W 0 (fun _=>true) true m0_9 31 [c0_9]=some y0_9:=t0_9
 obtain⟨m0_10,y0_10,g0_10⟩:=open_fld Tryz.underlying34 hc0 10 _ rfl
 have t0_10:DataW.trod enc Tryz.prog W 0 (fun _=>true) true m0_10 32 (([c0_0,c0_1,c0_2,c0_3,c0_4,c0_5,c0_6,c0_7,c0_8,c0_9,c0_10].drop 10).take (Tryz.prog.cellsOf 32))=some y0_10:=g0_10
 rw[show Tryz.prog.cellsOf 32=1 from by kernel_rfl] at t0_10
 have u0_10:DataW.trod enc Tryz.prog W 0 (fun _=>true) true m0_10 32 [c0_10]=some y0_10:=t0_10
 obtain⟨a0_0,e0_0,x0_0,w0_0⟩:=DataW.trod_int Tryz.underlying3 u0_0
 obtain rfl:c0_0 = .int .i64 a0_0:=by simpa using e0_0
 obtain⟨a0_1,e0_1,x0_1,w0_1⟩:=DataW.trod_int Tryz.underlying31 u0_1
 obtain rfl:c0_1 = .int .u32 a0_1:=by simpa using e0_1
 obtain⟨a0_2,e0_2,x0_2⟩:=DataW.trod_bool Tryz.underlying4 u0_2
 obtain rfl:c0_2 = .bool a0_2:=by simpa using e0_2
 obtain⟨a0_3,e0_3,x0_3⟩:=DataW.trod_bool Tryz.underlying4 u0_3
 obtain rfl:c0_3 = .bool a0_3:=by simpa using e0_3
 obtain⟨a0_4,e0_4,x0_4⟩:=DataW.trod_bool Tryz.underlying4 u0_4
 obtain rfl:c0_4 = .bool a0_4:=by simpa using e0_4
 obtain⟨a0_5,e0_5,x0_5⟩:=DataW.trod_bool Tryz.underlying4 u0_5
 obtain rfl:c0_5 = .bool a0_5:=by simpa using e0_5
 obtain⟨a0_6,e0_6,x0_6⟩:=DataW.trod_bool Tryz.underlying4 u0_6
 obtain rfl:c0_6 = .bool a0_6:=by simpa using e0_6
 obtain⟨a0_7,e0_7,x0_7,w0_7⟩:=DataW.trod_int Tryz.underlying5 u0_7
 obtain rfl:c0_7 = .int .u8 a0_7:=by simpa using e0_7
 obtain⟨a0_8,e0_8,x0_8,w0_8⟩:=DataW.trod_int Tryz.underlying5 u0_8
 obtain rfl:c0_8 = .int .u8 a0_8:=by simpa using e0_8
 obtain⟨a0_9,e0_9,x0_9,w0_9⟩:=DataW.trod_int Tryz.underlying31 u0_9
 obtain rfl:c0_9 = .int .u32 a0_9:=by simpa using e0_9
 obtain⟨a0_10,cap0_10,l0_10,e0_10,hb0_10,n0_10⟩:=bytes_open u0_10
 subst e0_10
 obtain⟨a1,rfl,rfl,rfl,w1⟩:=open_int Tryz.underlying55 (hval 1 55 v1 rfl rfl) h1
 refine (walk W (both_of hL) a0_0 w0_0 a0_1 w0_1 a0_2 a0_3 a0_4 a0_5 a0_6 a0_7 w0_7 a0_8 w0_8 a0_9 w0_9 a0_10 cap0_10 l0_10 hb0_10 n0_10 a1 w1).mono fun e W' ⟨he,bel⟩ => ?_
 subst he
 exact⟨_,rfl,_,_,_,[],_,[],hW',trodAll_mk1 (shut_bool Tryz.underlying4 _),(trodAll_cons_mk (Below.trod laidOut (by kernel_rfl) (of_decide_eq_true (by kernel_rfl)) k0 bel lt0) (trodAll_cons_mk (Below.trod laidOut (by kernel_rfl) (of_decide_eq_true (by kernel_rfl)) k1 bel lt1) trodAll_mk0)),rfl,bel.frame _,fun h=>by cases h⟩
theorem over:Rows.nodeAloneRow.holds Tryz.pinned (OpenSpec.ofChange Rows.nodeAloneSpec) :=
 OpenClaim.holds_of_wide 5 Tryz.f5 rfl rfl rfl rfl rfl rfl rfl ⟨rfl,rfl,rfl,rfl,rfl⟩ rfl rfl rfl rfl rfl (by kernel_rfl) Tryz.func5 (by kernel_rfl)
  (of_decide_eq_true (by kernel_rfl)) (by unfold Func.isWrapper;first | (rw[if_pos (by decide +kernel)];kernel_rfl) | (rw[if_neg (by decide +kernel)];exact⟨rfl,rfl⟩))
  (fun os started H enc _=>lifted os started H enc)
theorem plain (f : FuncId) (fn : Func) (hf : Tryz.pinned.checked.prog.funcNamed "omnibus/omnibuslaw12.NodeAlone" = some f) (hfn : Tryz.pinned.checked.prog.funcs[f]? = some fn) :
    false=Tryz.pinned.checked.prog.looks []/\∀ (j:Nat) t,fn.params[j]? = some t->Tryz.pinned.checked.prog.wantsStandIn t=false:=by
 obtain rfl : f = 5 := Option.some.inj ((show Tryz.prog.funcNamed "omnibus/omnibuslaw12.NodeAlone" = some 5 by kernel_rfl).symm.trans hf) |>.symm
 obtain rfl:fn=Tryz.f5:=(Option.some.inj (Tryz.func5.symm.trans hfn)).symm
 refine⟨by kernel_rfl,fun j t ht => ?_⟩
 rw[Tryz.params5] at ht
 have hm:t∈[34,55]:=by have:=Array.mem_of_getElem? ht;simp at this ⊢;omega
 have hall:([34,55].all fun u => !Tryz.prog.wantsStandIn u)=true:=by kernel_rfl
 exact (show Tryz.prog.wantsStandIn t=false by simpa using List.all_eq_true.1 hall t hm)
theorem proved:Rows.NodeAloneCardSaid :=
 Claim7.holds_tied_plain_at .later [] _ _ _ _ over (fun _ h=>by cases h) (by kernel_rfl) (fun _ h=>by cases h) nodeAlone_row_tie rfl ⟨rfl,rfl⟩ (by kernel_rfl) rfl plain (by kernel_rfl)
#print axioms proved
end Go.Proofs.YtipefblpppmabaaGreatDoor.nodeAlone
