/- For every frame the law NodeAliens answers true and leaves its argument as it was; the package's tables are tied to the program's text. No conditions. -/
import Derived.Test.YtipefblpppmabaaGreatDoorRows
import Derived.Test.YtipefblpppmabaaGreatDoorCards
import Derived.Test.YtipefblpppmabaaGreatDoorTie
import Derived.Test.YtipefblpppmabaaGreatDoorNdE
import Derived.Test.YtipefblpppmabaaGreatDoorGv
import Derived.Test.YtipefblpppmabaaGreatDoorNdB
import Derived.Test.YtipefblpppmabaaGreatDoorGj
import Derived.Test.YtipefblpppmabaaGreatDoorGa
import Derived.Test.YtipefblpppmabaaGreatDoorFrmE
import Derived.WalkKit
import Derived.ProofKit
import Derived.OpenShut
import Derived.ShutString
import Derived.ChangeOld
import Derived.Below
import Derived.Carry
import Derived.Lib.SmallJoins
import Derived.Deep.RegionWith
import Derived.Deep.RegionHeld3
import Derived.LaidMore
import Derived.LaidLaws
import Derived.Stop.Joined
import Derived.SevenTiedAt
set_option maxHeartbeats 6000000
set_option maxRecDepth 100000
namespace Go.Proofs.YtipefblpppmabaaGreatDoor.nodeAliens
open Go.ChangeShapes Go.WideShapes Go.ChangeAt Go.RowKit Go.Joins
set_option linter.unusedVariables false
set_option linter.unusedSimpArgs false
theorem own:ownKnob Tryz.prog.godebug=none:=by kernel_rfl
theorem laidOut:laidOutB Tryz.prog=true:=by kernel_rfl
theorem arr11 {α:Type} {cs:Array α} (h:cs.size=11):∃ c0 c1 c2 c3 c4 c5 c6 c7 c8 c9 c10,cs=#[c0,c1,c2,c3,c4,c5,c6,c7,c8,c9,c10]:=by
 obtain⟨l⟩:=cs
 match l,h with
 | [c0,c1,c2,c3,c4,c5,c6,c7,c8,c9,c10],_=>exact⟨c0,c1,c2,c3,c4,c5,c6,c7,c8,c9,c10,rfl⟩
def prS (N k:Nat):Nat:=if N<=k then 1 else 0
theorem and_bus {x y:Nat} (hx:x<=1) (hy:y<=1):bits BinOp.and IntKind.u8 (x:Int) (y:Int)=((min x y:Nat):Int):=by
 rcases (by omega:x=0\/x=1) with rfl | rfl<;>rcases (by omega:y=0\/y=1) with rfl | rfl<;>decide
theorem field_fa2 (p c T R O h:Value) (w:World):(Instr.field 51 (.agg #[p,c,T,R,O,h]) 2).run Tryz.prog w = .ok (.agg #[T,R,O]) w:=by kernel_rfl
theorem alien_load {f:Hd} {l:List Nat} (h:Fr f l) (hk:f.K=3):(Nd.joined false).loadE f l=10/\(Nd.joined false).load f l=Nd.joined false:=by
 have e:(Nd.joined false).loadE f l=10:=by
  unfold Nd.loadE
  rw[h.ok,if_neg (by simp),if_pos ⟨hk,rfl⟩]
 refine⟨e,?_⟩
 unfold Nd.load
 rw[e,if_neg (by omega)]
theorem prC_is {f:Hd} {l:List Nat} (hf:Fr f l) {i:Nat} {c:Nd} (h:PrC f l i c):c.fa=Fa.zero/\(c.ph=3->c.x.length<=60100)/\(i=(rawF f l).length+13->c.ph=1):=by
 have hl:=hf.raw_len
 have ho:(onW f l).length=(rawF f l).length+10:=onW_len f l
 rcases h with ⟨rfl,rfl⟩ | ⟨h0,h1,rfl,he⟩ | ⟨h0,h1,J,hp,hcc⟩ | ⟨rfl,J,hp,hcc⟩ | ⟨h0,h1,J,hp,hcc⟩ | ⟨rfl,J,hp,_⟩
 ·exact⟨rfl,fun e=>(by cases e),fun e=>(by omega)⟩
 ·exact⟨rfl,fun _=>by show ((onW f l).take i).length<=_;rw[List.length_take];omega,fun e=>by omega⟩
 ·exact⟨J.fa,fun e=>by omega,fun e=>by omega⟩
 ·exact⟨J.fa,fun e=>by omega,fun e=>by omega⟩
 ·exact⟨J.fa,fun e=>by omega,fun e=>by omega⟩
 ·exact⟨J.fa,fun e=>by omega,fun _=>hp⟩
theorem walk (w:World) (hK:Both w) (a0_0:Int) (w0_0:(Lit.int .i64 a0_0).wf=true) (a0_1:Int) (w0_1:(Lit.int .u32 a0_1).wf=true) (a0_2:Bool) (a0_3:Bool) (a0_4:Bool) (a0_5:Bool) (a0_6:Bool) (a0_7:Int) (w0_7:(Lit.int .u8 a0_7).wf=true) (a0_8:Int) (w0_8:(Lit.int .u8 a0_8).wf=true) (a0_9:Int) (w0_9:(Lit.int .u32 a0_9).wf=true) (a0_10:Option Addr) (cap0_10:Nat) (l0_10:List Nat) (h0_10:Bs w a0_10 cap0_10 l0_10) (n0_10:a0_10=none->cap0_10=0) :
    Calls Tryz.prog 8 #[.agg #[.int .i64 a0_0,.int .u32 a0_1,.bool a0_2,.bool a0_3,.bool a0_4,.bool a0_5,.bool a0_6,.int .u8 a0_7,.int .u8 a0_8,.int .u32 a0_9,.slice a0_10 l0_10.length cap0_10]] w fun e w'=>e = .returned (.bool true)/\Nb w w':=by
 have hL0:=h0_10.len
 have hW:WdX ⟨3,a0_1,false,false,false,false,a0_6,a0_7,a0_8,a0_9⟩:=by
  simp[Lit.wf,IntKind.min,IntKind.max,IntKind.signed,IntKind.bits] at w0_1 w0_7 w0_8 w0_9
  simp only[WdX]
  omega
 have HK:=Lib.hid hK
 have HA:=Lib.hid h0_10
 have HN0:=Lib.hid n0_10
 have hbB:=Lib.hid h0_10.hbyte
 obtain⟨W0,hW0⟩:∃ W0,W0=w.alloc (.cells #[.int .i64 a0_0,.int .u32 a0_1,.bool a0_2,.bool a0_3,.bool a0_4,.bool a0_5,.bool a0_6,.int .u8 a0_7,.int .u8 a0_8,.int .u32 a0_9,.slice a0_10 l0_10.length cap0_10] 34):=⟨_,rfl⟩
 have QF:=Lib.hid (show Blk W0 w.heap.size #[.int .i64 a0_0,.int .u32 a0_1,.bool a0_2,.bool a0_3,.bool a0_4,.bool a0_5,.bool a0_6,.int .u8 a0_7,.int .u8 a0_8,.int .u32 a0_9,.slice a0_10 l0_10.length cap0_10] 34 by rw[hW0];exact Blk.new _ _ _)
 have M0:=Lib.hid (show Nb w W0 by rw[hW0];exact Nb.rfl.al _)
 have HW0:=Lib.hid hW0
 obtain⟨fh,hfe⟩:∃ fh:Hd,fh=⟨3,a0_1,false,false,false,false,a0_6,a0_7,a0_8,a0_9⟩:=⟨_,rfl⟩
 have hcs:∀ v,fh.cs v=#[.int .i64 3,.int .u32 a0_1,.bool false,.bool false,.bool false,.bool false,.bool a0_6,.int .u8 a0_7,.int .u8 a0_8,.int .u32 a0_9,v]:=fun v=>by rw[hfe];rfl
 have hk3:fh.K=3:=by rw[hfe]
 rw[<- hfe] at hW
 have F0:=Lib.hid (fun w' (n:Nb w w')=>by
  have q:=check5_any fh a0_10 cap0_10 l0_10 w' (HA.out.below n) (HK.out.below n).longer
  rw[hcs] at q
  exact q)
 clear hK h0_10 w0_0 w0_1 w0_7 w0_8 w0_9 n0_10 hW0
 cases hok:okF fh l0_10 with
 | false =>
   rw[show checkN fh l0_10=2 by simp[checkN,hok]] at F0
   clear hok hW hfe hcs hk3
   go_enter Tryz.func8,Tryz.ntmps8
   go_wp2_with fail
   rw[<- HW0.out]
   refine (alive12_any _ (HK.out.below M0.out)).mono ?_
   rintro e w1 ⟨rfl,n1⟩
   have Q1:=Lib.hid (QF.out.nb n1)
   have K1:=Lib.hid (M0.out.tr n1)
   clear n1
   obtain⟨c0,c1,c2,c3,c4,c5,c6,c7,c8,c9,c10⟩:=Q1.out.c11
   obtain⟨d0,d1,d2,d3,d4,d5,d6,d7,d8,d9,d10⟩:=Q1.out.f11
   obtain⟨W1,hW1⟩:∃ W1,W1=((((w1.setCell ⟨w.heap.size,0,none⟩ (.int .i64 3)).setCell ⟨w.heap.size,2,none⟩ (.bool false)).setCell ⟨w.heap.size,3,none⟩ (.bool false)).setCell ⟨w.heap.size,4,none⟩ (.bool false)).setCell ⟨w.heap.size,5,none⟩ (.bool false):=⟨_,rfl⟩
   have QW:=Lib.hid (show Blk W1 w.heap.size #[.int .i64 3,.int .u32 a0_1,.bool false,.bool false,.bool false,.bool false,.bool a0_6,.int .u8 a0_7,.int .u8 a0_8,.int .u32 a0_9,.slice a0_10 l0_10.length cap0_10] 34 by rw[hW1];exact (((((Q1.out.set 0 _).set 2 _).set 3 _).set 4 _).set 5 _))
   have M1:=Lib.hid (show Nb w W1 by rw[hW1];exact (((((K1.out.st (Nat.le_refl _) _).st (Nat.le_refl _) _).st (Nat.le_refl _) _).st (Nat.le_refl _) _).st (Nat.le_refl _) _))
   have HW1:=Lib.hid hW1
   clear hW1
   go_wp2_with fail
   rw[<- HW1.out]
   clear c0 c1 c2 c3 c4 c5 c6 c7 c8 c9 c10 d1 d2 d3 d4 d5 d6 d7 d8 d9 d10
   refine (F0.out _ M1.out).mono ?_
   rintro e w2 ⟨rfl,n2⟩
   go_wp2
   go_ret
   exact⟨rfl,M1.out.tr n2⟩
 | true =>
   have hFr:Fr fh l0_10:=⟨hok,hW,hbB.out⟩
   rw[show checkN fh l0_10=0 by simp[checkN,hok]] at F0
   clear hok
   by_cases hbig:60 < l0_10.length
   ·have db:decide ((60:Int) < (l0_10.length:Int))=true:=decide_eq_true (by omega)
    clear hbig hW hFr hfe hcs hk3
    go_enter Tryz.func8,Tryz.ntmps8
    go_wp2_with fail
    rw[<- HW0.out]
    refine (alive12_any _ (HK.out.below M0.out)).mono ?_
    rintro e w1 ⟨rfl,n1⟩
    have Q1:=Lib.hid (QF.out.nb n1)
    have K1:=Lib.hid (M0.out.tr n1)
    clear n1
    obtain⟨c0,c1,c2,c3,c4,c5,c6,c7,c8,c9,c10⟩:=Q1.out.c11
    obtain⟨d0,d1,d2,d3,d4,d5,d6,d7,d8,d9,d10⟩:=Q1.out.f11
    obtain⟨W1,hW1⟩:∃ W1,W1=((((w1.setCell ⟨w.heap.size,0,none⟩ (.int .i64 3)).setCell ⟨w.heap.size,2,none⟩ (.bool false)).setCell ⟨w.heap.size,3,none⟩ (.bool false)).setCell ⟨w.heap.size,4,none⟩ (.bool false)).setCell ⟨w.heap.size,5,none⟩ (.bool false):=⟨_,rfl⟩
    have QW:=Lib.hid (show Blk W1 w.heap.size #[.int .i64 3,.int .u32 a0_1,.bool false,.bool false,.bool false,.bool false,.bool a0_6,.int .u8 a0_7,.int .u8 a0_8,.int .u32 a0_9,.slice a0_10 l0_10.length cap0_10] 34 by rw[hW1];exact (((((Q1.out.set 0 _).set 2 _).set 3 _).set 4 _).set 5 _))
    have M1:=Lib.hid (show Nb w W1 by rw[hW1];exact (((((K1.out.st (Nat.le_refl _) _).st (Nat.le_refl _) _).st (Nat.le_refl _) _).st (Nat.le_refl _) _).st (Nat.le_refl _) _))
    have HW1:=Lib.hid hW1
    clear hW1
    go_wp2_with fail
    rw[<- HW1.out]
    clear c0 c1 c2 c3 c4 c5 c6 c7 c8 c9 c10 d1 d2 d3 d4 d5 d6 d7 d8 d9 d10
    refine (F0.out _ M1.out).mono ?_
    rintro e w2 ⟨rfl,n2⟩
    obtain⟨c0,c1,c2,c3,c4,c5,c6,c7,c8,c9,c10⟩:=(QW.out.nb n2).c11
    go_wp2
    go_ret
    exact⟨rfl,M1.out.tr n2⟩
   have db:decide ((60:Int) < (l0_10.length:Int))=false:=decide_eq_false (by omega)
   clear hbig
   obtain⟨b1,b2,_,_⟩:=pair_load hFr
   obtain⟨b3,b4⟩:=alien_load hFr hk3
   have hB:=fun w' (m:Nb w w')=>HK.out.below m
   have hD:=fun w' (m:Nb w w')=>HA.out.below m
   have hloadA:=fun w' v F (h:NodeAt w' v (Nd.joined true) F) (m:Nb w w')=>load12_any v (Nd.joined true) F fh a0_10 cap0_10 l0_10 w' h (joined_ok true) (hB w' m) (hD w' m) HN0.out hW
   rw[b1,b2] at hloadA
   have hloadC:=fun w' v F (h:NodeAt w' v (Nd.joined false) F) (m:Nb w w')=>load12_any v (Nd.joined false) F fh a0_10 cap0_10 l0_10 w' h (joined_ok false) (hB w' m) (hD w' m) HN0.out hW
   rw[b3,b4] at hloadC
   have hwire:=fun w' (m:Nb w w')=>refwire9_any fh a0_10 cap0_10 l0_10 w' (hD w' m) hW HN0.out
   have hsame:=fun w' a c (b:Bs w' a c l0_10) (m:Nb w w')=>same5_any fh fh a a0_10 c cap0_10 l0_10 l0_10 w' b (hD w' m)
   rw[show sameF fh fh l0_10 l0_10=true by simp[sameF,Hd.eqb]] at hsame
   have hZe:=hFr.len.1
   have hZr:=hFr.raw_len
   generalize wF fh l0_10=Z at hwire hZe
   generalize arbF fh l0_10=zA at hwire
   generalize ackF fh l0_10=zK at hwire
   generalize erF fh l0_10=zE at hwire
   have hZ:Z.length<=60010:=by omega
   simp only[hcs] at hloadA hloadC hwire hsame
   have HZ:=Lib.hid hZe
   have HFr:=Lib.hid hFr
   have HK3:=Lib.hid hk3
   have HLA:=Lib.hid hloadA
   have HLC:=Lib.hid hloadC
   have HWI:=Lib.hid hwire
   have HSM:=Lib.hid hsame
   have HFE:=Lib.hid hfe
   have hfp:=field_ph
   have hff:=field_fa2
   clear hloadA hloadC hwire hsame b1 b2 b3 b4 hFr hW hZe hZr hcs hfe hB hD hk3
   go_enter Tryz.func8,Tryz.ntmps8
   go_wp2_with fail
   rw[<- HW0.out]
   refine (alive12_any _ (HK.out.below M0.out)).mono ?_
   rintro e w1 ⟨rfl,n1⟩
   have Q1:=Lib.hid (QF.out.nb n1)
   have K1:=Lib.hid (M0.out.tr n1)
   clear n1
   obtain⟨c0,c1,c2,c3,c4,c5,c6,c7,c8,c9,c10⟩:=Q1.out.c11
   obtain⟨d0,d1,d2,d3,d4,d5,d6,d7,d8,d9,d10⟩:=Q1.out.f11
   obtain⟨W1,hW1⟩:∃ W1,W1=((((w1.setCell ⟨w.heap.size,0,none⟩ (.int .i64 3)).setCell ⟨w.heap.size,2,none⟩ (.bool false)).setCell ⟨w.heap.size,3,none⟩ (.bool false)).setCell ⟨w.heap.size,4,none⟩ (.bool false)).setCell ⟨w.heap.size,5,none⟩ (.bool false):=⟨_,rfl⟩
   have QW:=Lib.hid (show Blk W1 w.heap.size #[.int .i64 3,.int .u32 a0_1,.bool false,.bool false,.bool false,.bool false,.bool a0_6,.int .u8 a0_7,.int .u8 a0_8,.int .u32 a0_9,.slice a0_10 l0_10.length cap0_10] 34 by rw[hW1];exact (((((Q1.out.set 0 _).set 2 _).set 3 _).set 4 _).set 5 _))
   have M1:=Lib.hid (show Nb w W1 by rw[hW1];exact (((((K1.out.st (Nat.le_refl _) _).st (Nat.le_refl _) _).st (Nat.le_refl _) _).st (Nat.le_refl _) _).st (Nat.le_refl _) _))
   have HW1:=Lib.hid hW1
   clear hW1
   go_wp2_with fail
   rw[<- HW1.out]
   have HB:=Lib.hid (fun w' (m:Nb W1 w')=>HK.out.below (M1.out.tr m))
   clear c0 c1 c2 c3 c4 c5 c6 c7 c8 c9 c10 d0 d1 d2 d3 d4 d5 d6 d7 d8 d9 d10
   refine (F0.out _ M1.out).mono ?_
   rintro e w2 ⟨rfl,n2⟩
   have K2:=Lib.hid n2
   clear n2
   obtain⟨c0,c1,c2,c3,c4,c5,c6,c7,c8,c9,c10⟩:=(QW.out.nb K2.out).c11
   go_wp2_with fail
   refine (joined12_any true _ (HB.out _ K2.out)).mono ?_
   rintro e w3 ⟨va,rfl,g3⟩
   have HN3:=Lib.hid ((Nodes.nil W1 w2 K2.out).add g3)
   clear g3
   go_wp2_with fail
   refine (joined12_any true _ (HB.out _ HN3.out.nb)).mono ?_
   rintro e w4 ⟨vb,rfl,g4⟩
   have HN4:=Lib.hid (HN3.out.add g4)
   clear g4
   go_wp2_with fail
   refine (joined12_any false _ (HB.out _ HN4.out.nb)).mono ?_
   rintro e w5 ⟨vc,rfl,g5⟩
   have HG:Hid (∃ F,NodesF W1 w5 [(va,Nd.joined true),(vb,Nd.joined true),(vc,Nd.joined false)] F):=Lib.hid (HN4.out.add g5)
   clear g5 HN3 HN4 c0 c1 c2 c3 c4 c5 c6 c7 c8 c9 c10
   obtain⟨F5,h5⟩:=HG.out
   have H5:=Lib.hid h5
   clear h5 HG
   obtain⟨c0,c1,c2,c3,c4,c5,c6,c7,c8,c9,c10⟩:=(QW.out.nb H5.out.nb).c11
   go_wp2_with fail
   refine (HLA.out _ va _ (H5.out.has 0 va _ rfl) (M1.out.tr H5.out.nb)).mono ?_
   rintro e w6 ⟨F',rfl,g1,g2,g3⟩
   have H6:Hid (NodesF W1 w6 [(va,prA fh l0_10 0),(vb,Nd.joined true),(vc,Nd.joined false)] _):=Lib.hid (H5.out.turn 0 rfl g1 g2 g3)
   clear g1 g2 g3 c0 c1 c2 c3 c4 c5 c6 c7 c8 c9 c10
   obtain⟨c0,c1,c2,c3,c4,c5,c6,c7,c8,c9,c10⟩:=(QW.out.nb H6.out.nb).c11
   go_wp2_with fail
   refine (HLC.out _ vc _ (H6.out.has 2 vc _ rfl) (M1.out.tr H6.out.nb)).mono ?_
   rintro e w7 ⟨F'',rfl,g1,g2,g3⟩
   have HN7:Hid (Nodes W1 w7 [(va,prA fh l0_10 0),(vb,prB fh l0_10 0),(vc,Nd.joined false)]):=Lib.hid ⟨_,H6.out.turn 2 rfl g1 g2 g3⟩
   clear g1 g2 g3 c0 c1 c2 c3 c4 c5 c6 c7 c8 c9 c10 H5 H6
   obtain⟨c0,c1,c2,c3,c4,c5,c6,c7,c8,c9,c10⟩:=(QW.out.nb HN7.out.nb).c11
   go_wp2_with fail
   refine (HWI.out _ (M1.out.tr HN7.out.nb)).mono ?_
   rintro e w8 ⟨⟨az,cz,rfl,_⟩,n8⟩
   have HN8:=Lib.hid (HN7.out.keep n8)
   clear n8 HN7 c0 c1 c2 c3 c4 c5 c6 c7 c8 c9 c10 HLA HLC HWI
   go_wp2
   go_loopw [8,52] (fun gv ix wr=>∃ (k:Nat) (nc:Nd),k<=Z.length+3/\ix = .int .i64 k/\gv = .int .i64 (prS Z.length (k+1):Nat)/\PrC fh l0_10 k nc/\nc.Ok/\Nodes W1 wr [(va,prA fh l0_10 k),(vb,prB fh l0_10 k),(vc,nc)]) (fun _ ix _=>Z.length+3 - (intOf ix).toNat)
   case atStart=>exact⟨0,_,Nat.zero_le _,rfl,by rw[show prS Z.length (0+1)=0 from if_neg (by have:=HZ.out;have:=HFr.out.raw_len;omega)];rfl,.inl ⟨rfl,rfl⟩,joined_ok false,HN8.out.keep (by first | exact Nb.rfl | exact Nb.rfl.al _ | exact (Nb.rfl.al _).al _)⟩
   case round =>
    obtain⟨k,nc,hk,rfl,rfl,hC,hO,F,hN⟩:=hrel
    have N:=Lib.hid hN
    have okA:=Lib.hid (prA_ok HFr.out k (by have:=HZ.out;omega))
    have okB:=Lib.hid (prB_ok HFr.out k (by have:=HZ.out;omega))
    have okC:=Lib.hid hO
    have PC:=Lib.hid hC
    obtain⟨g,hg⟩:∃ g,prS Z.length (k+1)=g:=⟨_,rfl⟩
    rw[hg]
    have HG:=Lib.hid hg
    clear hN hg HN8 hC hO
    by_cases hlt:k < Z.length+3
    ·have hlt':decide ((k:Int) < (Z.length:Int)+3)=true:=decide_eq_true (by omega)
     have hi:k < (rawF fh l0_10).length+13:=by have:=HZ.out;omega
     have sA:=(prA_step HFr.out hi).2
     have sB:=(prB_step HFr.out hi).2
     obtain⟨oC,PC',eC⟩:=prC_step HFr.out HK3.out hi PC.out
     obtain⟨p1,p2,p3⟩:=pr_bus HFr.out hi
     have hand:=and_bus p1 p2
     rw[p3] at hand
     have hle:=prW_le HFr.out k hi
     have hand2:bits BinOp.and IntKind.u8 ((prW fh l0_10 k:Nat):Int) 1=((prW fh l0_10 k:Nat):Int):=(and_bus hle (Nat.le_refl 1)).trans (by rw[Nat.min_eq_left hle])
     obtain⟨x1,x2⟩:=pr_short HFr.out k
     have x3:=(prC_is HFr.out PC.out).2.1
     have okC':=(step_ok okC.out hle).ok
     have HOA:=Lib.hid (out12_any va _ _ wr (N.out.has 0 va _ rfl) okA.out (HB.out wr N.out.nb))
     have HOB:=Lib.hid (fun w' (m:Nb wr w')=>out12_any vb _ _ w' ((N.out.keep m).has 1 vb _ rfl) okB.out (HB.out w' (N.out.nb.tr m)))
     have hOC:=fun w' (m:Nb wr w')=>out12_any vc _ _ w' ((N.out.keep m).has 2 vc _ rfl) okC.out (HB.out w' (N.out.nb.tr m))
     rw[oC] at hOC
     have HOC:=Lib.hid hOC
     have hsA:=fun w' (m:Nb wr w')=>samp12_any va _ _ (prW fh l0_10 k) w' ((N.out.keep m).has 0 va _ rfl) okA.out (fun _=>x1) (HB.out w' (N.out.nb.tr m)) hle
     have hsB:=fun w' F' (h:NodeAt w' vb (prB fh l0_10 k) F') (m:Nb W1 w')=>samp12_any vb _ F' (prW fh l0_10 k) w' h okB.out (fun _=>x2) (HB.out w' m) hle
     have hsC:=fun w' F' (h:NodeAt w' vc nc F') (m:Nb W1 w')=>samp12_any vc _ F' (prW fh l0_10 k) w' h okC.out x3 (HB.out w' m) hle
     rw[sA] at hsA
     generalize (if k+1=(rawF fh l0_10).length+10 then (⟨1,0,fh,l0_10⟩:Ev) else noEv)=evA at hsA
     generalize hrB:(prB fh l0_10 k).step (prW fh l0_10 k)=rB at hsB sB
     generalize hrC:nc.step (prW fh l0_10 k)=rC at hsC PC' eC okC'
     obtain⟨nB,⟨yk,ye,⟨yK,yI,yX,yR,yB,yE,yS,yD,yV,yA⟩,yl⟩⟩:=rB
     obtain⟨nC,evC⟩:=rC
     obtain⟨rfl,eB⟩:=Prod.mk.inj sB
     simp only at eC PC' okC'
     obtain rfl:=eC
     generalize (prA fh l0_10 k).out=oA at hand HOA
     generalize (prB fh l0_10 k).out=oB at hand HOB
     generalize prW fh l0_10 k=wb at hand hand2 hsA hsB hsC
     have HSA:=Lib.hid hsA
     have HSB:=Lib.hid hsB
     have HSC:=Lib.hid hsC
     have EB:=Lib.hid eB
     have HPC:=Lib.hid PC'
     have HOK:=Lib.hid okC'
     have HFA:=Lib.hid (prC_is HFr.out PC').1
     clear hsA hsB hsC sA sB eB hrB hrC p1 p2 p3 hle x1 x2 x3 oC hOC PC' okC'
     go_wp2_with fail
     refine HOA.out.mono ?_
     rintro e w6 ⟨rfl,n6⟩
     have K6:=Lib.hid n6
     clear n6
     go_wp2_with fail
     refine (HOB.out _ K6.out).mono ?_
     rintro e w7 ⟨rfl,n7⟩
     have K7:=Lib.hid (K6.out.tr n7)
     clear n7
     go_wp2_with fail
     refine (HOC.out _ K7.out).mono ?_
     rintro e w8 ⟨rfl,n8⟩
     have K8:=Lib.hid (K7.out.tr n8)
     clear n8 HOA HOB HOC
     go_wp2_with fail
     refine (HSA.out _ K8.out).mono ?_
     rintro e w9 ⟨F9,⟨_,_,rfl,_,_⟩,g1,g2,g3⟩
     have N9:Hid (NodesF W1 w9 [(va,prA fh l0_10 (k+1)),(vb,prB fh l0_10 k),(vc,nc)] _):=Lib.hid ((N.out.keep K8.out).turn 0 rfl g1 g2 g3)
     clear g1 g2 g3 HSA
     go_wp2_with fail
     refine (HSB.out _ _ (N9.out.has 1 vb _ rfl) N9.out.nb).mono ?_
     rintro e wA ⟨FA,⟨a,c,rfl,by',hy⟩,g1,g2,g3⟩
     have NA:Hid (NodesF W1 wA [(va,prA fh l0_10 (k+1)),(vb,prB fh l0_10 (k+1)),(vc,nc)] _):=Lib.hid (N9.out.turn 1 rfl g1 g2 g3)
     have YA:=Lib.hid by'
     have AA:=Lib.hid (fun b o t e=>N9.out.out (i:=1) (j:=2) (by simp) (by simp) (by decide) g3 b (hy b o t e))
     clear g1 g2 g3 by' hy HSB
     simp only[evV,staV]
     go_wp2_with fail
     refine (HSC.out _ _ ((NA.out.keep (Nb.rfl.al _)).has 2 vc _ rfl) (NA.out.nb.al _)).mono ?_
     rintro e wB ⟨FB,⟨a',c',rfl,_,_⟩,g1,g2,g3⟩
     have NB':Hid (NodesF W1 wB [(va,prA fh l0_10 (k+1)),(vb,prB fh l0_10 (k+1)),(vc,nC)] _):=Lib.hid ((NA.out.keep (Nb.rfl.al _)).turn 2 rfl g1 g2 g3)
     have YB:=Lib.hid ((YA.out.below (Nb.rfl.al _)).keepKp g2 AA.out)
     have EY:=Lib.hid ((Blk.new wA #[.int .i64 (yk:Nat),.int .i64 (ye:Nat),.int .i64 yK,.int .u32 yI,.bool yX,.bool yR,.bool yB,.bool yE,.bool yS,.int .u8 yD,.int .u8 yV,.int .u32 yA,.slice a yl.length c] 36).keep g2 (fun hh=>Nat.lt_irrefl _ (NA.out.lt (j:=2) (by simp) _ hh)))
     have hst:=fun w' (m:Nb wB w')=>state12_any vc _ _ w' ((NB'.out.keep m).has 2 vc _ rfl) HOK.out (HB.out w' (NB'.out.nb.tr m))
     simp only[stV] at hst
     rw[HFA.out] at hst
     simp only[Fa.zero] at hst
     generalize (nC.ph:Nat)=pC at hst
     generalize nC.count=cC at hst
     generalize nC.has=bC at hst
     have HST:=Lib.hid hst
     clear g1 g2 g3 HSC N9 YA AA NA hst HFA
     obtain⟨c0,c1,c2,c3,c4,c5,c6,c7,c8,c9,c10⟩:=(QW.out.nb NB'.out.nb).c11
     simp only[evV,staV,noEv,noF]
     go_wp2_with fail
     refine (HST.out _ (Nb.rfl.al _)).mono ?_
     rintro e wC ⟨rfl,nCC⟩
     have KC:=Lib.hid ((Nb.rfl.al _).tr nCC:Nb wB wC)
     clear nCC HST c0 c1 c2 c3 c4 c5 c6 c7 c8 c9 c10
     obtain⟨c0,c1,c2,c3,c4,c5,c6,c7,c8,c9,c10⟩:=(QW.out.nb (NB'.out.nb.tr KC.out)).c11
     obtain⟨x0,x1,x2,x3,x4,x5,x6,x7,x8,x9,x10,x11,x12⟩:=(Blk.h13 (EY.out.nb KC.out)).2.1
     by_cases hB:k+1=(rawF fh l0_10).length+9
     ·have qB:=EB.out
      rw[if_pos hB,HFE.out] at qB
      cases qB
      obtain rfl:g=0:=by rw[<- HG.out];exact if_neg (by have:=HZ.out;omega)
      have hG1:=Lib.hid (show prS Z.length (k+1+1)=1 from if_pos (by have:=HZ.out;omega))
      clear hB EB HG
      go_wp2_with fail
      refine (HSM.out _ _ _ (YB.out.below KC.out) (M1.out.tr (NB'.out.nb.tr KC.out))).mono ?_
      rintro e wD ⟨rfl,nD⟩
      have ND:=Lib.hid (NB'.out.keep (KC.out.tr nD))
      clear nD x0 x1 x2 x3 x4 x5 x6 x7 x8 x9 x10 x11 x12 c0 c1 c2 c3 c4 c5 c6 c7 c8 c9 c10
      go_wp2
      go_roundw
      case rel=>exact⟨k+1,nC,by omega,by go_num,by rw[hG1.out];rfl,HPC.out,HOK.out,_,ND.out⟩
      case measure=>simp[intOf];omega
     ·have qB:=EB.out
      rw[if_neg hB] at qB
      cases qB
      have hG1:=Lib.hid (show prS Z.length (k+1+1)=g by rw[<- HG.out];unfold prS;have:=HZ.out;(repeat' split)<;>omega)
      clear hB EB HG
      go_wp2
      go_roundw
      case rel=>exact⟨k+1,nC,by omega,by go_num,by rw[hG1.out],HPC.out,HOK.out,_,NB'.out.keep KC.out⟩
      case measure=>simp[intOf];omega
    ·have hlt':decide ((k:Int) < (Z.length:Int)+3)=false:=decide_eq_false (by omega)
     obtain rfl:k=Z.length+3:=by omega
     obtain rfl:g=1:=by rw[<- HG.out];exact if_pos (by omega)
     have hph:nc.ph=1:=(prC_is HFr.out PC.out).2.2 (by have:=HZ.out;omega)
     have hst:=state12_any vc _ _ wr (N.out.has 2 vc _ rfl) okC.out (HB.out wr N.out.nb)
     simp only[stV] at hst
     rw[hph] at hst
     have HST:=Lib.hid hst
     clear hst hph
     go_wp2_with fail
     refine HST.out.mono ?_
     rintro e w6 ⟨rfl,n6⟩
     have K6:=Lib.hid (M1.out.tr (N.out.nb.tr n6))
     clear n6
     go_wp2
     go_ret
     exact⟨rfl,K6.out⟩
theorem door_met (os:Os) (args:Array Value):laidMetH Tryz.prog Rows.nodeAliensRow.laid ((World.doorLaid Tryz.prog 24 os).forCall (fun _ _=>0) ⟨#[],args,[]⟩).memory :=
 laidMetH_of_parts3 (fuel:=8) (laidMet_of_run' 8 (by kernel_rfl) (by kernel_rfl)) (by kernel_rfl) (by kernel_rfl)
theorem lifted (os:Os) (started:os.Started) (H:Type) (enc:TypeId × Value->H) :
    ReturnsInHanded {} Tryz.checked os 8 .any (fun w args=>(Rows.nodeAliensSpec.pre enc Tryz.prog Tryz.f8 [] false w args/\laidMetH Tryz.prog Rows.nodeAliensRow.laid w)/\sizedMet enc Tryz.prog Tryz.f8 (OpenSpec.ofChange Rows.nodeAliensSpec) false w args)
     (Rows.nodeAliensSpec.post enc Tryz.prog Tryz.f8 false true false false):=by
 refine returnsInHanded_of_change_and (C:=Tryz.checked) (X:=fun w _=>laidMetH Tryz.prog Rows.nodeAliensRow.laid w) (fun _ _ _ hh h=>h.of_heap hh) own started (by kernel_rfl) Tryz.func8
  (ChangeSpec.witness_shaped (enc:=enc) (C:=Tryz.checked) (os:=os) (X:=fun w _=>laidMetH Tryz.prog Rows.nodeAliensRow.laid w) false (World.doorLaid Tryz.prog 24 os) #[.agg #[.int .i64 0,.int .u32 0,.bool false,.bool false,.bool false,.bool false,.bool false,.int .u8 0,.int .u8 0,.int .u32 0,.slice none 0 0]] 8 rfl (World.shaped_of_RefB (by kernel_rfl) (by kernel_rfl)) (by kernel_rfl) (by kernel_rfl) (by kernel_rfl) (door_met os _)) ?_
 intro W base args ds gs before hval0 hW _ hR hL _
 have hval:∀ (j:Nat) t v,Tryz.f8.params[j]? = some t->args[j]? = some v->Value.okWide Tryz.prog W .any base t v:=hval0
 have hW':=hW
 obtain⟨p,q,hA0,hV,rfl,hfz,hnd⟩:=hW
 have hA:DataW.TrodAll enc Tryz.prog W 0 (fun _=>true) true Tryz.f8.params.toList args.toList ds p:=hA0
 rw[Tryz.params8] at hA hval
 obtain⟨v0,vs0,d0,ds0,p0,q0,hargs,rfl,rfl,h0,r0⟩:=trodAll_cons hA
 obtain⟨rfl,rfl,rfl⟩:=trodAll_nil r0
 obtain rfl:args=#[v0]:=by cases args;simp_all
 obtain⟨rfl,rfl⟩:=trodVars_none hV
 have k0:=h0
 have lt0:∀ x∈p0,x.block < W.heap.size:=by obtain⟨m,hm⟩:=k0;exact DataW.trod_lt m _ _ _ hm
 clear hA0
 obtain⟨cs0,rfl,hz0⟩:=okWide_struct Tryz.underlying34 (hval 0 34 v0 rfl rfl)
 obtain⟨c0_0,c0_1,c0_2,c0_3,c0_4,c0_5,c0_6,c0_7,c0_8,c0_9,c0_10,rfl⟩:=arr11 (hz0.trans (by kernel_rfl))
 obtain⟨fu0,hf0⟩:=h0
 have hc0:DataW.trod enc Tryz.prog W 0 (fun _=>true) true fu0 34 [c0_0,c0_1,c0_2,c0_3,c0_4,c0_5,c0_6,c0_7,c0_8,c0_9,c0_10]=some (d0,p0):=hf0
 obtain⟨m0_0,y0_0,g0_0⟩:=open_fld Tryz.underlying34 hc0 0 _ rfl
 have t0_0:DataW.trod enc Tryz.prog W 0 (fun _=>true) true m0_0 3 (([c0_0,c0_1,c0_2,c0_3,c0_4,c0_5,c0_6,c0_7,c0_8,c0_9,c0_10].drop 0).take (Tryz.prog.cellsOf 3))=some y0_0:=g0_0
 rw[show Tryz.prog.cellsOf 3=1 from by kernel_rfl] at t0_0
 have u0_0:DataW.trod enc Tryz.prog W 0 (fun _=>true) true m0_0 3 [c0_0]=some y0_0:=t0_0
 obtain⟨m0_1,y0_1,g0_1⟩:=open_fld Tryz.underlying34 hc0 1 _ rfl
 have t0_1:DataW.trod enc Tryz.prog W 0 (fun _=>true) true m0_1 31 (([c0_0,c0_1,c0_2,c0_3,c0_4,c0_5,c0_6,c0_7,c0_8,c0_9,c0_10].drop 1).take (Tryz.prog.cellsOf 31))=some y0_1:=g0_1
 rw[show Tryz.prog.cellsOf 31=1 from by kernel_rfl] at t0_1
 have u0_1:DataW.trod enc Tryz.prog W 0 (fun _=>true) true m0_1 31 [c0_1]=some y0_1:=t0_1
 obtain⟨m0_2,y0_2,g0_2⟩:=open_fld Tryz.underlying34 hc0 2 _ rfl
 have t0_2:DataW.trod enc Tryz.prog W 0 (fun _=>true) true m0_2 4 (([c0_0,c0_1,c0_2,c0_3,c0_4,c0_5,c0_6,c0_7,c0_8,c0_9,c0_10].drop 2).take (Tryz.prog.cellsOf 4))=some y0_2:=g0_2
 rw[show Tryz.prog.cellsOf 4=1 from by kernel_rfl] at t0_2
 have u0_2:DataW.trod enc Tryz.prog W 0 (fun _=>true) true m0_2 4 [c0_2]=some y0_2:=t0_2
 obtain⟨m0_3,y0_3,g0_3⟩:=open_fld Tryz.underlying34 hc0 3 _ rfl
 have t0_3:DataW.trod enc Tryz.prog W 0 (fun _=>true) true m0_3 4 (([c0_0,c0_1,c0_2,c0_3,c0_4,c0_5,c0_6,c0_7,c0_8,c0_9,c0_10].drop 3).take (Tryz.prog.cellsOf 4))=some y0_3:=g0_3
 rw[show Tryz.prog.cellsOf 4=1 from by kernel_rfl] at t0_3
 have u0_3:DataW.trod enc Tryz.prog W 0 (fun _=>true) true m0_3 4 [c0_3]=some y0_3:=t0_3
 obtain⟨m0_4,y0_4,g0_4⟩:=open_fld Tryz.underlying34 hc0 4 _ rfl
 have t0_4:DataW.trod enc Tryz.prog W 0 (fun _=>true) true m0_4 4 (([c0_0,c0_1,c0_2,c0_3,c0_4,c0_5,c0_6,c0_7,c0_8,c0_9,c0_10].drop 4).take (Tryz.prog.cellsOf 4))=some y0_4:=g0_4
 rw[show Tryz.prog.cellsOf 4=1 from by kernel_rfl] at t0_4
 have u0_4:DataW.trod enc Tryz.prog W 0 (fun _=>true) true m0_4 4 [c0_4]=some y0_4:=t0_4
 obtain⟨m0_5,y0_5,g0_5⟩:=open_fld Tryz.underlying34 hc0 5 _ rfl
 have t0_5:DataW.trod enc Tryz.prog W 0 (fun _=>true) true m0_5 4 (([c0_0,c0_1,c0_2,c0_3,c0_4,c0_5,c0_6,c0_7,c0_8,c0_9,c0_10].drop 5).take (Tryz.prog.cellsOf 4))=some y0_5:=g0_5
 rw[show Tryz.prog.cellsOf 4=1 from by kernel_rfl] at t0_5
 have u0_5:DataW.trod enc Tryz.prog W 0 (fun _=>true) true m0_5 4 [c0_5]=some y0_5:=t0_5
 obtain⟨m0_6,y0_6,g0_6⟩:=open_fld Tryz.underlying34 hc0 6 _ rfl
 have t0_6:DataW.trod enc Tryz.prog W 0 (fun _=>true) true m0_6 4 (([c0_0,c0_1,c0_2,c0_3,c0_4,c0_5,c0_6,c0_7,c0_8,c0_9,c0_10].drop 6).take (Tryz.prog.cellsOf 4))=some y0_6:=g0_6
 rw[show Tryz.prog.cellsOf 4=1 from by kernel_rfl] at t0_6
 have u0_6:DataW.trod enc Tryz.prog W 0 (fun _=>true) true m0_6 4 [c0_6]=some y0_6:=t0_6
 obtain⟨m0_7,y0_7,g0_7⟩:=open_fld Tryz.underlying34 hc0 7 _ rfl
 have t0_7:DataW.trod enc Tryz.prog W 0 (fun _=>true) true m0_7 5 (([c0_0,c0_1,c0_2,c0_3,c0_4,c0_5,c0_6,c0_7,c0_8,c0_9,c0_10].drop 7).take (Tryz.prog.cellsOf 5))=some y0_7:=g0_7
 rw[show Tryz.prog.cellsOf 5=1 from by kernel_rfl] at t0_7
 have u0_7:DataW.trod enc Tryz.prog W 0 (fun _=>true) true m0_7 5 [c0_7]=some y0_7:=t0_7
 obtain⟨m0_8,y0_8,g0_8⟩:=open_fld Tryz.underlying34 hc0 8 _ rfl
 have t0_8:DataW.trod enc Tryz.prog W 0 (fun _=>true) true m0_8 5 (([c0_0,c0_1,c0_2,c0_3,c0_4,c0_5,c0_6,c0_7,c0_8,c0_9,c0_10].drop 8).take (Tryz.prog.cellsOf 5))=some y0_8:=g0_8
 rw[show Tryz.prog.cellsOf 5=1 from by kernel_rfl] at t0_8
 have u0_8:DataW.trod enc Tryz.prog W 0 (fun _=>true) true m0_8 5 [c0_8]=some y0_8:=t0_8
 obtain⟨m0_9,y0_9,g0_9⟩:=open_fld Tryz.underlying34 hc0 9 _ rfl
 have t0_9:DataW.trod enc Tryz.prog W 0 (fun _=>true) true m0_9 31 (([c0_0,c0_1,c0_2,c0_3,c0_4,c0_5,c0_6,c0_7,c0_8,c0_9,c0_10].drop 9).take (Tryz.prog.cellsOf 31))=some y0_9:=g0_9
 rw[show Tryz.prog.cellsOf 31=1 from by kernel_rfl] at t0_9
 have u0_9:DataW.trod enc Tryz.prog W 0 (fun _=>true) true m0_9 31 [c0_9]=some y0_9:=t0_9
 obtain⟨m0_10,y0_10,g0_10⟩:=open_fld Tryz.underlying34 hc0 10 _ rfl
 have t0_10:DataW.trod enc Tryz.prog W 0 (fun _=>true) true m0_10 32 (([c0_0,c0_1,c0_2,c0_3,c0_4,c0_5,c0_6,c0_7,c0_8,c0_9,c0_10].drop 10).take (Tryz.prog.cellsOf 32))=some y0_10:=g0_10
 rw[show Tryz.prog.cellsOf 32=1 from by kernel_rfl] at t0_10
 have u0_10:DataW.trod enc Tryz.prog W 0 (fun _=>true) true m0_10 32 [c0_10]=some y0_10:=t0_10
 obtain⟨a0_0,e0_0,x0_0,w0_0⟩:=DataW.trod_int Tryz.underlying3 u0_0
 obtain rfl:c0_0 = .int .i64 a0_0:=by simpa using e0_0
 obtain⟨a0_1,e0_1,x0_1,w0_1⟩:=DataW.trod_int Tryz.underlying31 u0_1
 obtain rfl:c0_1 = .int .u32 a0_1:=by simpa using e0_1
 obtain⟨a0_2,e0_2,x0_2⟩:=DataW.trod_bool Tryz.underlying4 u0_2
 obtain rfl:c0_2 = .bool a0_2:=by simpa using e0_2
 obtain⟨a0_3,e0_3,x0_3⟩:=DataW.trod_bool Tryz.underlying4 u0_3
 obtain rfl:c0_3 = .bool a0_3:=by simpa using e0_3
 obtain⟨a0_4,e0_4,x0_4⟩:=DataW.trod_bool Tryz.underlying4 u0_4
 obtain rfl:c0_4 = .bool a0_4:=by simpa using e0_4
 obtain⟨a0_5,e0_5,x0_5⟩:=DataW.trod_bool Tryz.underlying4 u0_5
 obtain rfl:c0_5 = .bool a0_5:=by simpa using e0_5
 obtain⟨a0_6,e0_6,x0_6⟩:=DataW.trod_bool Tryz.underlying4 u0_6
 obtain rfl:c0_6 = .bool a0_6:=by simpa using e0_6
 obtain⟨a0_7,e0_7,x0_7,w0_7⟩:=DataW.trod_int Tryz.underlying5 u0_7
 obtain rfl:c0_7 = .int .u8 a0_7:=by simpa using e0_7
 obtain⟨a0_8,e0_8,x0_8,w0_8⟩:=DataW.trod_int Tryz.underlying5 u0_8
 obtain rfl:c0_8 = .int .u8 a0_8:=by simpa using e0_8
 obtain⟨a0_9,e0_9,x0_9,w0_9⟩:=DataW.trod_int Tryz.underlying31 u0_9
 obtain rfl:c0_9 = .int .u32 a0_9:=by simpa using e0_9
 obtain⟨a0_10,cap0_10,l0_10,e0_10,hb0_10,n0_10⟩:=bytes_open u0_10
 subst e0_10
 refine (walk W (both_of hL) a0_0 w0_0 a0_1 w0_1 a0_2 a0_3 a0_4 a0_5 a0_6 a0_7 w0_7 a0_8 w0_8 a0_9 w0_9 a0_10 cap0_10 l0_10 hb0_10 n0_10).mono fun e W' ⟨he,bel⟩ => ?_
 subst he
 exact⟨_,rfl,_,_,_,[],_,[],hW',trodAll_mk1 (shut_bool Tryz.underlying4 _),(trodAll_cons_mk (Below.trod laidOut (by kernel_rfl) (of_decide_eq_true (by kernel_rfl)) k0 bel lt0) trodAll_mk0),rfl,bel.frame _,fun h=>by cases h⟩
theorem over:Rows.nodeAliensRow.holds Tryz.pinned (OpenSpec.ofChange Rows.nodeAliensSpec) :=
 OpenClaim.holds_of_wide 8 Tryz.f8 rfl rfl rfl rfl rfl rfl rfl ⟨rfl,rfl,rfl,rfl,rfl⟩ rfl rfl rfl rfl rfl (by kernel_rfl) Tryz.func8 (by kernel_rfl)
  (of_decide_eq_true (by kernel_rfl)) (by unfold Func.isWrapper;first | (rw[if_pos (by decide +kernel)];kernel_rfl) | (rw[if_neg (by decide +kernel)];exact⟨rfl,rfl⟩))
  (fun os started H enc _=>lifted os started H enc)
theorem plain (f : FuncId) (fn : Func) (hf : Tryz.pinned.checked.prog.funcNamed "omnibus/omnibuslaw12.NodeAliens" = some f) (hfn : Tryz.pinned.checked.prog.funcs[f]? = some fn) :
    false=Tryz.pinned.checked.prog.looks []/\∀ (j:Nat) t,fn.params[j]? = some t->Tryz.pinned.checked.prog.wantsStandIn t=false:=by
 obtain rfl : f = 8 := Option.some.inj ((show Tryz.prog.funcNamed "omnibus/omnibuslaw12.NodeAliens" = some 8 by kernel_rfl).symm.trans hf) |>.symm
 obtain rfl:fn=Tryz.f8:=(Option.some.inj (Tryz.func8.symm.trans hfn)).symm
 refine⟨by kernel_rfl,fun j t ht => ?_⟩
 rw[Tryz.params8] at ht
 have hm:t∈[34]:=by have:=Array.mem_of_getElem? ht;simp at this ⊢;omega
 have hall:([34].all fun u => !Tryz.prog.wantsStandIn u)=true:=by kernel_rfl
 exact (show Tryz.prog.wantsStandIn t=false by simpa using List.all_eq_true.1 hall t hm)
theorem proved:Rows.NodeAliensCardSaid :=
 Claim7.holds_tied_plain_at .later [] _ _ _ _ over (fun _ h=>by cases h) (by kernel_rfl) (fun _ h=>by cases h) nodeAliens_row_tie rfl ⟨rfl,rfl⟩ (by kernel_rfl) rfl plain (by kernel_rfl)
#print axioms proved
end Go.Proofs.YtipefblpppmabaaGreatDoor.nodeAliens
