/- For every bank and every frame the law FilterSame answers true and leaves its arguments as they were; the package's table of longer sizes is tied to the program's text. No conditions. -/
import Derived.Test.YtaohmgklhecjbaaDoorRows
import Derived.Test.YtaohmgklhecjbaaDoorCards
import Derived.Test.YtaohmgklhecjbaaDoorTie
import Derived.Test.YtaohmgklhecjbaaDoorFlS
import Derived.Test.YtaohmgklhecjbaaDoorFlO
import Derived.Test.YtaohmgklhecjbaaDoorGe
import Derived.Test.YtaohmgklhecjbaaDoorFlU
import Derived.WalkKit
import Derived.ProofKit
import Derived.OpenShut
import Derived.ShutString
import Derived.ChangeOld
import Derived.Below
import Derived.Carry
import Derived.Lib.SmallJoins
import Derived.Deep.RegionWith
import Derived.Deep.RegionHeld3
import Derived.LaidMore
import Derived.LaidLaws
import Derived.Stop.Joined
import Derived.SevenTiedAt
set_option maxHeartbeats 8000000
set_option maxRecDepth 100000
namespace Go.Proofs.YtaohmgklhecjbaaDoor.filterSame
open Go.ChangeShapes Go.WideShapes Go.ChangeAt Go.RowKit Go.Joins
set_option linter.unusedVariables false
set_option linter.unusedSimpArgs false
theorem own:ownKnob Tryd.prog.godebug=none:=by kernel_rfl
theorem laidOut:laidOutB Tryd.prog=true:=by kernel_rfl
theorem arr2 {α:Type} {cs:Array α} (h:cs.size=2):∃ c0 c1,cs=#[c0,c1]:=by
 obtain⟨l⟩:=cs
 match l,h with
 | [c0,c1],_=>exact⟨c0,c1,rfl⟩
theorem arr11 {α:Type} {cs:Array α} (h:cs.size=11):∃ c0 c1 c2 c3 c4 c5 c6 c7 c8 c9 c10,cs=#[c0,c1,c2,c3,c4,c5,c6,c7,c8,c9,c10]:=by
 obtain⟨l⟩:=cs
 match l,h with
 | [c0,c1,c2,c3,c4,c5,c6,c7,c8,c9,c10],_=>exact⟨c0,c1,c2,c3,c4,c5,c6,c7,c8,c9,c10,rfl⟩
open Go.Sort
theorem walk (w:World) (hK:Longer w) (a0_0:Option Addr) (cap0_0:Nat) (l0_0:List Rl) (h0_0:Rls w a0_0 cap0_0 l0_0) (n0_0:a0_0=none->cap0_0=0) (r0_0:cap0_0*32<=140737488351232) (a0_1:Bool) (a1_0:Int) (w1_0:(Lit.int .i64 a1_0).wf=true) (a1_1:Int) (w1_1:(Lit.int .u32 a1_1).wf=true) (a1_2:Bool) (a1_3:Bool) (a1_4:Bool) (a1_5:Bool) (a1_6:Bool) (a1_7:Int) (w1_7:(Lit.int .u8 a1_7).wf=true) (a1_8:Int) (w1_8:(Lit.int .u8 a1_8).wf=true) (a1_9:Int) (w1_9:(Lit.int .u32 a1_9).wf=true) (a1_10:Option Addr) (cap1_10:Nat) (l1_10:List Nat) (h1_10:Bs w a1_10 cap1_10 l1_10) (n1_10:a1_10=none->cap1_10=0) :
    Calls Tryd.prog 5 #[.agg #[.slice a0_0 l0_0.length cap0_0,.bool a0_1],.agg #[.int .i64 a1_0,.int .u32 a1_1,.bool a1_2,.bool a1_3,.bool a1_4,.bool a1_5,.bool a1_6,.int .u8 a1_7,.int .u8 a1_8,.int .u32 a1_9,.slice a1_10 l1_10.length cap1_10]] w fun e w'=>e = .returned (.bool true)/\Nb w w':=by
 have HK:=Lib.hid hK
 have hL0:=h0_0.len
 have hL1:=h1_10.len
 have HR:=Lib.hid h0_0
 have HD:=Lib.hid h1_10
 have AL:=Lib.hid (fun w' (n:Nb w w')=>alive15_any w' (hK.below n))
 have WF:=Lib.hid (show WdH (⟨a1_0,a1_1,a1_2,a1_3,a1_4,a1_5,a1_6,a1_7,a1_8,a1_9⟩:Hd) from ⟨wf32 w1_1,wf8 w1_7,wf8 w1_8,wf32 w1_9⟩)
 obtain⟨z0,hz0⟩:∃ z0,z0=(w.alloc (.cells #[.slice a0_0 l0_0.length cap0_0,.bool a0_1] 24)).alloc (.cells #[.int .i64 a1_0,.int .u32 a1_1,.bool a1_2,.bool a1_3,.bool a1_4,.bool a1_5,.bool a1_6,.int .u8 a1_7,.int .u8 a1_8,.int .u32 a1_9,.slice a1_10 l1_10.length cap1_10] 28):=⟨_,rfl⟩
 obtain⟨B,hB⟩:∃ B,B=w.heap.size:=⟨_,rfl⟩
 have NZ:=Lib.hid (show Nb w z0 by rw[hz0];exact (Nb.rfl.al _).al _)
 have BB:=Lib.hid (show Blk z0 B #[.slice a0_0 l0_0.length cap0_0,.bool a0_1] 24 by rw[hz0,hB];exact (Blk.new w _ _).nb (Nb.rfl.al _))
 have BF:=Lib.hid (show Blk z0 (B+1) #[.int .i64 a1_0,.int .u32 a1_1,.bool a1_2,.bool a1_3,.bool a1_4,.bool a1_5,.bool a1_6,.int .u8 a1_7,.int .u8 a1_8,.int .u32 a1_9,.slice a1_10 l1_10.length cap1_10] 28 by
  rw[hz0,hB]
  have:=Blk.new (w.alloc (.cells #[.slice a0_0 l0_0.length cap0_0,.bool a0_1] 24)) #[.int .i64 a1_0,.int .u32 a1_1,.bool a1_2,.bool a1_3,.bool a1_4,.bool a1_5,.bool a1_6,.int .u8 a1_7,.int .u8 a1_8,.int .u32 a1_9,.slice a1_10 l1_10.length cap1_10] 28
  rwa[World.size_alloc] at this)
 have hsz:l0_0.length*32<=140737488355328:=by
  have:=h0_0.hcap
  omega
 clear hK h0_0 n0_0 r0_0 h1_10 n1_10
 have lc:=fun (L:List Rl) ax cx w' (h:Rls w' ax cx L)=>least15_any L ax cx a0_1 w' h
 unfold LeastR at lc
 cases hok:okB l0_0 with
 | false =>
   have LC:=Lib.hid (lc l0_0)
   rw[show bkE l0_0=2 by simp[bkE,hok],show (okB l0_0&&a0_1)=false by rw[hok];rfl] at LC
   obtain⟨ev,hev⟩:∃ ev,ev=false:=⟨_,rfl⟩
   rw[<- hev] at LC
   clear lc hok hev
   cases d0:decide ((200:Int) < (l0_0.length:Int))
   all_goals (
    go_enter Tryd.func5,Tryd.ntmps5
    go_wp2_with fail
    rw[<- hz0,<- hB]
    clear hz0 hB
    refine (AL.out _ NZ.out).mono ?_
    rintro e w1 ⟨rfl,n1⟩
    have N1:=Lib.hid (NZ.out.tr n1)
    have B1:=Lib.hid (BB.out.nb n1)
    have F1:=Lib.hid (BF.out.nb n1)
    obtain⟨e0,e1⟩:=B1.out.r2
    clear n1
    go_wp2_with fail
    refine (lawTo_any l0_0 a0_0 cap0_0 a0_1 w1 (HR.out.below N1.out) hsz).mono ?_
    rintro e w2 ⟨⟨ax,cx,rfl,ox,gx⟩,n2⟩
    obtain⟨y2,hy2⟩:∃ y2,y2=w2.alloc (.cells #[.slice ax l0_0.length cx,.bool a0_1] 32):=⟨_,rfl⟩
    obtain⟨X,hX⟩:∃ X,X=w2.heap.size:=⟨_,rfl⟩
    have m2:Nb w2 y2:=by rw[hy2];exact Nb.rfl.al _
    have X2:=Lib.hid (show Blk y2 X #[.slice ax l0_0.length cx,.bool a0_1] 32 by rw[hy2,hX];exact Blk.new _ _ _)
    have OX:=Lib.hid (ox.nb m2)
    have N2:=Lib.hid (N1.out.tr (n2.tr m2))
    have B2:=Lib.hid (B1.out.nb (n2.tr m2))
    have F2:=Lib.hid (F1.out.nb (n2.tr m2))
    clear n2 m2 ox gx e0 e1
    go_wp2_with fail
    rw[<- hy2,<- hX]
    clear hy2 hX
    refine (LC.out ax cx y2 OX.out.rls.2).mono ?_
    rintro e w3 ⟨⟨M,am,cm,hM,rfl,om,gm⟩,n3⟩
    obtain⟨y3,hy3⟩:∃ y3,y3=w3.alloc (.cells #[.slice am M.length cm,.bool ev] 32):=⟨_,rfl⟩
    obtain⟨Lb,hLb⟩:∃ Lb,Lb=w3.heap.size:=⟨_,rfl⟩
    have m3:Nb w3 y3:=by rw[hy3];exact Nb.rfl.al _
    have L3:=Lib.hid (show Blk y3 Lb #[.slice am M.length cm,.bool ev] 32 by rw[hy3,hLb];exact Blk.new _ _ _)
    have OM:=Lib.hid (om.nb m3)
    have N3:=Lib.hid (N2.out.tr (n3.tr m3))
    have B3:=Lib.hid (B2.out.nb (n3.tr m3))
    have F3:=Lib.hid (F2.out.nb (n3.tr m3))
    have X3:=Lib.hid (X2.out.nb (n3.tr m3))
    have OX3:=Lib.hid (OX.out.nb (n3.tr m3))
    have hw3:B < w3.heap.size:=(B2.out.nb n3).lt
    obtain⟨e0,e1⟩:=(B2.out.nb n3).r2
    obtain⟨x0,x1⟩:=(X2.out.nb n3).r2
    obtain⟨c0,c1,c2,c3,c4,c5,c6,c7,c8,c9,c10⟩:=(F2.out.nb n3).c11
    have hx3:X < w3.heap.size:=(X2.out.nb n3).lt
    have hf3:B+1 < w3.heap.size:=(F2.out.nb n3).lt
    clear n3 m3 om gm
    clear hM
    go_wp2
    go_ret
    exact⟨rfl,by rw[<- hy3];exact N3.out⟩)
 | true =>
   have h32:=((okB_iff l0_0).1 hok).1
   have d0:decide ((200:Int) < (l0_0.length:Int))=false:=decide_eq_false (by omega)
   have lc1:=lc l0_0
   rw[show bkE l0_0=0 by simp[bkE,hok],show (okB l0_0&&a0_1)=a0_1 by rw[hok];rfl,if_pos hok] at lc1
   have LC:=Lib.hid lc1
   obtain⟨M0,hM0⟩:∃ M0,M0=leastR l0_0 a0_1:=⟨_,rfl⟩
   have hok2:okB M0=true:=by rw[hM0];exact least_ok hok _
   have lc2:=lc M0
   rw[show bkE M0=0 by simp[bkE,hok2],show (okB M0&&a0_1)=a0_1 by rw[hok2];rfl,if_pos hok2,show leastR M0 a0_1=M0 by rw[hM0];exact least_least _ _] at lc2
   have LD:=Lib.hid lc2
   rw[<- hM0] at LC
   have hMl:M0.length<=l0_0.length:=by rw[hM0];exact least_len _ _
   have ip:=fun ax cx w' (h:Rls w' ax cx l0_0) (n:Nb w w')=>in15_any ⟨a1_0,a1_1,a1_2,a1_3,a1_4,a1_5,a1_6,a1_7,a1_8,a1_9⟩ a1_10 cap1_10 l1_10 ax cx l0_0 a0_1 w' (HD.out.below n) h (HK.out.below n)
   have iq:=fun ax cx w' (h:Rls w' ax cx M0) (n:Nb w w')=>in15_any ⟨a1_0,a1_1,a1_2,a1_3,a1_4,a1_5,a1_6,a1_7,a1_8,a1_9⟩ a1_10 cap1_10 l1_10 ax cx M0 a0_1 w' (HD.out.below n) h (HK.out.below n)
   rw[hM0,(least_in ⟨a1_0,a1_1,a1_2,a1_3,a1_4,a1_5,a1_6,a1_7,a1_8,a1_9⟩ l1_10 hok a0_1).1,(least_in ⟨a1_0,a1_1,a1_2,a1_3,a1_4,a1_5,a1_6,a1_7,a1_8,a1_9⟩ l1_10 hok a0_1).2,<- hM0] at iq
   generalize inV ⟨a1_0,a1_1,a1_2,a1_3,a1_4,a1_5,a1_6,a1_7,a1_8,a1_9⟩ l1_10 l0_0 a0_1=v3 at ip iq
   generalize inE ⟨a1_0,a1_1,a1_2,a1_3,a1_4,a1_5,a1_6,a1_7,a1_8,a1_9⟩ l1_10 l0_0=v4 at ip iq
   have cp:=fun ax cx w' (h:Rls w' ax cx M0)=>check15_any M0 ax cx a0_1 w' h
   rw[show bkE M0=0 by simp[bkE,hok2]] at cp
   simp only[Hd.cs] at ip iq
   have IP:=Lib.hid ip
   have IQ:=Lib.hid iq
   have CP:=Lib.hid cp
   clear lc lc1 lc2 ip iq cp hok hM0 hok2
   go_enter Tryd.func5,Tryd.ntmps5
   go_wp2_with fail
   rw[<- hz0,<- hB]
   clear hz0 hB
   refine (AL.out _ NZ.out).mono ?_
   rintro e w1 ⟨rfl,n1⟩
   have N1:=Lib.hid (NZ.out.tr n1)
   have B1:=Lib.hid (BB.out.nb n1)
   have F1:=Lib.hid (BF.out.nb n1)
   obtain⟨e0,e1⟩:=B1.out.r2
   clear n1
   go_wp2_with fail
   refine (lawTo_any l0_0 a0_0 cap0_0 a0_1 w1 (HR.out.below N1.out) hsz).mono ?_
   rintro e w2 ⟨⟨ax,cx,rfl,ox,gx⟩,n2⟩
   obtain⟨y2,hy2⟩:∃ y2,y2=w2.alloc (.cells #[.slice ax l0_0.length cx,.bool a0_1] 32):=⟨_,rfl⟩
   obtain⟨X,hX⟩:∃ X,X=w2.heap.size:=⟨_,rfl⟩
   have m2:Nb w2 y2:=by rw[hy2];exact Nb.rfl.al _
   have X2:=Lib.hid (show Blk y2 X #[.slice ax l0_0.length cx,.bool a0_1] 32 by rw[hy2,hX];exact Blk.new _ _ _)
   have OX:=Lib.hid (ox.nb m2)
   have N2:=Lib.hid (N1.out.tr (n2.tr m2))
   have B2:=Lib.hid (B1.out.nb (n2.tr m2))
   have F2:=Lib.hid (F1.out.nb (n2.tr m2))
   clear n2 m2 ox gx e0 e1
   go_wp2_with fail
   rw[<- hy2,<- hX]
   clear hy2 hX
   refine (LC.out ax cx y2 OX.out.rls.2).mono ?_
   rintro e w3 ⟨⟨M,am,cm,hM,rfl,om,gm⟩,n3⟩
   obtain⟨y3,hy3⟩:∃ y3,y3=w3.alloc (.cells #[.slice am M.length cm,.bool a0_1] 32):=⟨_,rfl⟩
   obtain⟨Lb,hLb⟩:∃ Lb,Lb=w3.heap.size:=⟨_,rfl⟩
   have m3:Nb w3 y3:=by rw[hy3];exact Nb.rfl.al _
   have L3:=Lib.hid (show Blk y3 Lb #[.slice am M.length cm,.bool a0_1] 32 by rw[hy3,hLb];exact Blk.new _ _ _)
   have OM:=Lib.hid (om.nb m3)
   have N3:=Lib.hid (N2.out.tr (n3.tr m3))
   have B3:=Lib.hid (B2.out.nb (n3.tr m3))
   have F3:=Lib.hid (F2.out.nb (n3.tr m3))
   have X3:=Lib.hid (X2.out.nb (n3.tr m3))
   have OX3:=Lib.hid (OX.out.nb (n3.tr m3))
   have hw3:B < w3.heap.size:=(B2.out.nb n3).lt
   obtain⟨e0,e1⟩:=(B2.out.nb n3).r2
   obtain⟨x0,x1⟩:=(X2.out.nb n3).r2
   obtain⟨c0,c1,c2,c3,c4,c5,c6,c7,c8,c9,c10⟩:=(F2.out.nb n3).c11
   have hx3:X < w3.heap.size:=(X2.out.nb n3).lt
   have hf3:B+1 < w3.heap.size:=(F2.out.nb n3).lt
   clear n3 m3 om gm
   subst hM
   go_wp2_with fail
   rw[<- hy3,<- hLb]
   clear hy3 hLb e0 e1 x0 x1 c0 c1 c2 c3 c4 c5 c6 c7 c8 c9 c10 hw3 hx3 hf3
   refine (IP.out ax cx y3 OX3.out.rls.2 N3.out).mono ?_
   rintro e w4 ⟨rfl,n4⟩
   have M4:=Lib.hid n4
   clear n4
   obtain⟨l0,l1⟩:=(L3.out.nb M4.out).r2
   obtain⟨c0,c1,c2,c3,c4,c5,c6,c7,c8,c9,c10⟩:=(F3.out.nb M4.out).c11
   go_wp2_with fail
   refine (IQ.out am cm w4 (OM.out.nb M4.out).rls.2 (N3.out.tr M4.out)).mono ?_
   rintro e w5 ⟨rfl,n5⟩
   have M5:=Lib.hid (M4.out.tr n5)
   clear n5 l0 l1 c0 c1 c2 c3 c4 c5 c6 c7 c8 c9 c10
   obtain⟨l0,l1⟩:=(L3.out.nb M5.out).r2
   go_wp2_with fail
   refine (LD.out am cm w5 (OM.out.nb M5.out).rls.2).mono ?_
   rintro e w6 ⟨⟨Ma,aa,ca,hMa,rfl,oa,ga⟩,n6⟩
   obtain rfl:Ma=M:=hMa
   obtain⟨y6,hy6⟩:∃ y6,y6=w6.alloc (.cells #[.slice aa Ma.length ca,.bool a0_1] 32):=⟨_,rfl⟩
   obtain⟨A,hA⟩:∃ A,A=w6.heap.size:=⟨_,rfl⟩
   have m6:Nb w6 y6:=by rw[hy6];exact Nb.rfl.al _
   have A6:=Lib.hid (show Blk y6 A #[.slice aa Ma.length ca,.bool a0_1] 32 by rw[hy6,hA];exact Blk.new _ _ _)
   have OA:=Lib.hid (oa.nb m6)
   have M6:=Lib.hid (M5.out.tr (n6.tr m6))
   have L6:=Lib.hid (L3.out.nb M6.out)
   have B6:=Lib.hid (B3.out.nb M6.out)
   have OM6:=Lib.hid (OM.out.nb M6.out)
   have N6:=Lib.hid (N3.out.tr M6.out)
   have q1:(v3==v3)=true:=by simp
   have q2:((v4:Int)==(v4:Int))=true:=by simp
   have q3:decide ((Ma.length:Int)<=(l0_0.length:Int))=true:=decide_eq_true (by omega)
   have q4:Ma.length<=l0_0.length:=hMl
   clear n6 m6 oa ga l0 l1
   have FR:=Lib.hid (fun ax' cx' w' (h:Rls w' ax' cx' Ma)=>lawFrom_any Ma ax' cx' a0_1 w' h (by omega))
   have SM:=Lib.hid (fun (af ag:Option Addr) (cf cg:Nat) w' (hf:Rls w' af cf Ma) (hg:Rls w' ag cg Ma)=>refsame15_any Ma af ag cf cg a0_1 w' hf hg)
   have KA:=Lib.hid (show ∀ w',Nb y6 w'->w'.cell? ⟨A,0,none⟩=some (.slice aa Ma.length ca)/\w'.cell? ⟨A,1,none⟩=some (.bool a0_1)/\w'.cell? ⟨Lb,0,none⟩=some (.slice am Ma.length cm)/\w'.cell? ⟨Lb,1,none⟩=some (.bool a0_1)/\w'.cell? ⟨B,0,none⟩=some (.slice a0_0 l0_0.length cap0_0)/\w'.cell? ⟨B,1,none⟩=some (.bool a0_1) from fun w' n=>by
    obtain⟨k0,k1⟩:=(A6.out.nb n).r2
    obtain⟨k2,k3⟩:=(L6.out.nb n).r2
    obtain⟨k4,k5⟩:=(B6.out.nb n).r2
    exact⟨k0,k1,k2,k3,k4,k5⟩)
   obtain⟨k0,k1⟩:=A6.out.r2
   obtain⟨k2,k3⟩:=L6.out.r2
   obtain⟨k4,k5⟩:=B6.out.r2
   have NB:RowKit.Hid (Nb y6 y6.drew):=Lib.hid (Below.drew (Below.refl _ _))
   have q5:Value.slice aa Ma.length ca=Value.slice aa Ma.length ca:=rfl
   clear q5
   go_wp2_with fail
   rw[<- hy6,<- hA]
   clear hy6 hA
   go_region_held3 (fun w'=>w'.cell? ⟨A,0,none⟩=some (.slice aa Ma.length ca)/\w'.cell? ⟨A,1,none⟩=some (.bool a0_1)/\w'.cell? ⟨Lb,0,none⟩=some (.slice am Ma.length cm)/\w'.cell? ⟨Lb,1,none⟩=some (.bool a0_1)/\w'.cell? ⟨B,0,none⟩=some (.slice a0_0 l0_0.length cap0_0)/\w'.cell? ⟨B,1,none⟩=some (.bool a0_1))
    (first | go_keep | exact KA.out _ NB.out)
    (first
     | (go_at_call_of 22 (Value.slice aa Ma.length ca);refine (FR.out aa ca _ (OA.out.nb NB.out).rls.2).mono ?_;rintro e w7 ⟨⟨af,cf,rfl,of1,gf1⟩,n7⟩;have NB:=Lib.hid (NB.out.tr n7))
     | (go_at_call_of 22 (Value.slice am Ma.length cm);refine (FR.out am cm _ (OM6.out.nb NB.out).rls.2).mono ?_;rintro e w8 ⟨⟨ag,cg,rfl,of2,gf2⟩,n8⟩;have NB:=Lib.hid (NB.out.tr n8))
     | (go_at_call 21;(first | (refine (SM.out af ag cf cg _ (of1.nb n8).rls.2 of2.rls.2).mono ?_) | (refine (SM.out af ag cf cg _ of1.rls.2 (of2.nb n7).rls.2).mono ?_));rintro e w9 ⟨rfl,n9⟩;have NB:=Lib.hid (NB.out.tr n9))
     | (go_at_call 17;refine (CP.out am cm _ (OM6.out.nb NB.out).rls.2).mono ?_;rintro e wa ⟨rfl,na⟩;have NB:=Lib.hid (NB.out.tr na)))
   all_goals go_wp2
   all_goals go_ret
   all_goals exact⟨rfl,N6.out.tr NB.out⟩
theorem door_met (os:Os) (args:Array Value):laidMetH Tryd.prog Rows.filterSameRow.laid ((World.doorLaid Tryd.prog 14 os).forCall (fun _ _=>0) ⟨#[],args,[]⟩).memory :=
 laidMetH_of_parts3 (fuel:=8) (laidMet_of_run' 8 (by kernel_rfl) (by kernel_rfl)) (by kernel_rfl) (by kernel_rfl)
theorem lifted (os:Os) (started:os.Started) (H:Type) (enc:TypeId × Value->H) :
    ReturnsInHanded {} Tryd.checked os 5 .any (fun w args=>(Rows.filterSameSpec.pre enc Tryd.prog Tryd.f5 [] false w args/\laidMetH Tryd.prog Rows.filterSameRow.laid w)/\sizedMet enc Tryd.prog Tryd.f5 (OpenSpec.ofChange Rows.filterSameSpec) false w args)
     (Rows.filterSameSpec.post enc Tryd.prog Tryd.f5 false true false false):=by
 refine returnsInHanded_of_change_and (C:=Tryd.checked) (X:=fun w _=>laidMetH Tryd.prog Rows.filterSameRow.laid w) (fun _ _ _ hh h=>h.of_heap hh) own started (by kernel_rfl) Tryd.func5
  (ChangeSpec.witness_shaped (enc:=enc) (C:=Tryd.checked) (os:=os) (X:=fun w _=>laidMetH Tryd.prog Rows.filterSameRow.laid w) false (World.doorLaid Tryd.prog 14 os) #[.agg #[.slice none 0 0,.bool false],.agg #[.int .i64 0,.int .u32 0,.bool false,.bool false,.bool false,.bool false,.bool false,.int .u8 0,.int .u8 0,.int .u32 0,.slice none 0 0]] 8 rfl (World.shaped_of_RefB (by kernel_rfl) (by kernel_rfl)) (by kernel_rfl) (by kernel_rfl) (by kernel_rfl) (door_met os _)) ?_
 intro W base args ds gs before hval0 hW _ hR hL _
 have hval:∀ (j:Nat) t v,Tryd.f5.params[j]? = some t->args[j]? = some v->Value.okWide Tryd.prog W .any base t v:=hval0
 have hW':=hW
 obtain⟨p,q,hA0,hV,rfl,hfz,hnd⟩:=hW
 have hA:DataW.TrodAll enc Tryd.prog W 0 (fun _=>true) true Tryd.f5.params.toList args.toList ds p:=hA0
 rw[Tryd.params5] at hA hval
 obtain⟨v0,vs0,d0,ds0,p0,q0,hargs,rfl,rfl,h0,r0⟩:=trodAll_cons hA
 obtain⟨v1,vs1,d1,ds1,p1,q1,rfl,rfl,rfl,h1,r1⟩:=trodAll_cons r0
 obtain⟨rfl,rfl,rfl⟩:=trodAll_nil r1
 obtain rfl:args=#[v0,v1]:=by cases args;simp_all
 obtain⟨rfl,rfl⟩:=trodVars_none hV
 have k0:=h0
 have lt0:∀ x∈p0,x.block < W.heap.size:=by obtain⟨m,hm⟩:=k0;exact DataW.trod_lt m _ _ _ hm
 have k1:=h1
 have lt1:∀ x∈p1,x.block < W.heap.size:=by obtain⟨m,hm⟩:=k1;exact DataW.trod_lt m _ _ _ hm
 clear hA0
 rw[Tryd.params5] at hR
 have hR0:(DataW.weightsEach Tryd.prog ([24,28]++Rows.filterSameSpec.plain.varTypes Tryd.prog) ([d0,d1]++[])).all (·<=reachBytes)=true:=hR
 simp only[List.cons_append,List.nil_append,DataW.weightsEach,List.append_nil,List.all_append,Bool.and_eq_true] at hR0
 obtain⟨hR0,hR1,_⟩:=hR0
 obtain⟨cs0,rfl,hz0⟩:=okWide_struct Tryd.underlying24 (hval 0 24 v0 rfl rfl)
 obtain⟨c0_0,c0_1,rfl⟩:=arr2 (hz0.trans (by kernel_rfl))
 obtain⟨fu0,hf0⟩:=h0
 have hc0:DataW.trod enc Tryd.prog W 0 (fun _=>true) true fu0 24 [c0_0,c0_1]=some (d0,p0):=hf0
 obtain⟨a0_0,cap0_0,l0_0,a0_1,e0_0,e0_1,hb0_0,n0_0,rr0_0⟩:=bank_open hc0 hR0
 subst e0_0 e0_1
 obtain⟨cs1,rfl,hz1⟩:=okWide_struct Tryd.underlying28 (hval 1 28 v1 rfl rfl)
 obtain⟨c1_0,c1_1,c1_2,c1_3,c1_4,c1_5,c1_6,c1_7,c1_8,c1_9,c1_10,rfl⟩:=arr11 (hz1.trans (by kernel_rfl))
 obtain⟨fu1,hf1⟩:=h1
 have hc1:DataW.trod enc Tryd.prog W 0 (fun _=>true) true fu1 28 [c1_0,c1_1,c1_2,c1_3,c1_4,c1_5,c1_6,c1_7,c1_8,c1_9,c1_10]=some (d1,p1):=hf1
 obtain⟨m1_0,y1_0,g1_0⟩:=open_fld Tryd.underlying28 hc1 0 _ rfl
 have t1_0:DataW.trod enc Tryd.prog W 0 (fun _=>true) true m1_0 3 (([c1_0,c1_1,c1_2,c1_3,c1_4,c1_5,c1_6,c1_7,c1_8,c1_9,c1_10].drop 0).take (Tryd.prog.cellsOf 3))=some y1_0:=g1_0
 rw[show Tryd.prog.cellsOf 3=1 from by kernel_rfl] at t1_0
 have u1_0:DataW.trod enc Tryd.prog W 0 (fun _=>true) true m1_0 3 [c1_0]=some y1_0:=t1_0
 obtain⟨m1_1,y1_1,g1_1⟩:=open_fld Tryd.underlying28 hc1 1 _ rfl
 have t1_1:DataW.trod enc Tryd.prog W 0 (fun _=>true) true m1_1 25 (([c1_0,c1_1,c1_2,c1_3,c1_4,c1_5,c1_6,c1_7,c1_8,c1_9,c1_10].drop 1).take (Tryd.prog.cellsOf 25))=some y1_1:=g1_1
 rw[show Tryd.prog.cellsOf 25=1 from by kernel_rfl] at t1_1
 have u1_1:DataW.trod enc Tryd.prog W 0 (fun _=>true) true m1_1 25 [c1_1]=some y1_1:=t1_1
 obtain⟨m1_2,y1_2,g1_2⟩:=open_fld Tryd.underlying28 hc1 2 _ rfl
 have t1_2:DataW.trod enc Tryd.prog W 0 (fun _=>true) true m1_2 4 (([c1_0,c1_1,c1_2,c1_3,c1_4,c1_5,c1_6,c1_7,c1_8,c1_9,c1_10].drop 2).take (Tryd.prog.cellsOf 4))=some y1_2:=g1_2
 rw[show Tryd.prog.cellsOf 4=1 from by kernel_rfl] at t1_2
 have u1_2:DataW.trod enc Tryd.prog W 0 (fun _=>true) true m1_2 4 [c1_2]=some y1_2:=t1_2
 obtain⟨m1_3,y1_3,g1_3⟩:=open_fld Tryd.underlying28 hc1 3 _ rfl
 have t1_3:DataW.trod enc Tryd.prog W 0 (fun _=>true) true m1_3 4 (([c1_0,c1_1,c1_2,c1_3,c1_4,c1_5,c1_6,c1_7,c1_8,c1_9,c1_10].drop 3).take (Tryd.prog.cellsOf 4))=some y1_3:=g1_3
 rw[show Tryd.prog.cellsOf 4=1 from by kernel_rfl] at t1_3
 have u1_3:DataW.trod enc Tryd.prog W 0 (fun _=>true) true m1_3 4 [c1_3]=some y1_3:=t1_3
 obtain⟨m1_4,y1_4,g1_4⟩:=open_fld Tryd.underlying28 hc1 4 _ rfl
 have t1_4:DataW.trod enc Tryd.prog W 0 (fun _=>true) true m1_4 4 (([c1_0,c1_1,c1_2,c1_3,c1_4,c1_5,c1_6,c1_7,c1_8,c1_9,c1_10].drop 4).take (Tryd.prog.cellsOf 4))=some y1_4:=g1_4
 rw[show Tryd.prog.cellsOf 4=1 from by kernel_rfl] at t1_4
 have u1_4:DataW.trod enc Tryd.prog W 0 (fun _=>true) true m1_4 4 [c1_4]=some y1_4:=t1_4
 obtain⟨m1_5,y1_5,g1_5⟩:=open_fld Tryd.underlying28 hc1 5 _ rfl
 have t1_5:DataW.trod enc Tryd.prog W 0 (fun _=>true) true m1_5 4 (([c1_0,c1_1,c1_2,c1_3,c1_4,c1_5,c1_6,c1_7,c1_8,c1_9,c1_10].drop 5).take (Tryd.prog.cellsOf 4))=some y1_5:=g1_5
 rw[show Tryd.prog.cellsOf 4=1 from by kernel_rfl] at t1_5
 have u1_5:DataW.trod enc Tryd.prog W 0 (fun _=>true) true m1_5 4 [c1_5]=some y1_5:=t1_5
 obtain⟨m1_6,y1_6,g1_6⟩:=open_fld Tryd.underlying28 hc1 6 _ rfl
 have t1_6:DataW.trod enc Tryd.prog W 0 (fun _=>true) true m1_6 4 (([c1_0,c1_1,c1_2,c1_3,c1_4,c1_5,c1_6,c1_7,c1_8,c1_9,c1_10].drop 6).take (Tryd.prog.cellsOf 4))=some y1_6:=g1_6
 rw[show Tryd.prog.cellsOf 4=1 from by kernel_rfl] at t1_6
 have u1_6:DataW.trod enc Tryd.prog W 0 (fun _=>true) true m1_6 4 [c1_6]=some y1_6:=t1_6
 obtain⟨m1_7,y1_7,g1_7⟩:=open_fld Tryd.underlying28 hc1 7 _ rfl
 have t1_7:DataW.trod enc Tryd.prog W 0 (fun _=>true) true m1_7 5 (([c1_0,c1_1,c1_2,c1_3,c1_4,c1_5,c1_6,c1_7,c1_8,c1_9,c1_10].drop 7).take (Tryd.prog.cellsOf 5))=some y1_7:=g1_7
 rw[show Tryd.prog.cellsOf 5=1 from by kernel_rfl] at t1_7
 have u1_7:DataW.trod enc Tryd.prog W 0 (fun _=>true) true m1_7 5 [c1_7]=some y1_7:=t1_7
 obtain⟨m1_8,y1_8,g1_8⟩:=open_fld Tryd.underlying28 hc1 8 _ rfl
 have t1_8:DataW.trod enc Tryd.prog W 0 (fun _=>true) true m1_8 5 (([c1_0,c1_1,c1_2,c1_3,c1_4,c1_5,c1_6,c1_7,c1_8,c1_9,c1_10].drop 8).take (Tryd.prog.cellsOf 5))=some y1_8:=g1_8
 rw[show Tryd.prog.cellsOf 5=1 from by kernel_rfl] at t1_8
 have u1_8:DataW.trod enc Tryd.prog W 0 (fun _=>true) true m1_8 5 [c1_8]=some y1_8:=t1_8
 obtain⟨m1_9,y1_9,g1_9⟩:=open_fld Tryd.underlying28 hc1 9 _ rfl
 have t1_9:DataW.trod enc Tryd.prog W 0 (fun _=>true) true m1_9 25 (([c1_0,c1_1,c1_2,c1_3,c1_4,c1_5,c1_6,c1_7,c1_8,c1_9,c1_10].drop 9).take (Tryd.prog.cellsOf 25))=some y1_9:=g1_9
 rw[show Tryd.prog.cellsOf 25=1 from by kernel_rfl] at t1_9
 have u1_9:DataW.trod enc Tryd.prog W 0 (fun _=>true) true m1_9 25 [c1_9]=some y1_9:=t1_9
 obtain⟨m1_10,y1_10,g1_10⟩:=open_fld Tryd.underlying28 hc1 10 _ rfl
 have t1_10:DataW.trod enc Tryd.prog W 0 (fun _=>true) true m1_10 26 (([c1_0,c1_1,c1_2,c1_3,c1_4,c1_5,c1_6,c1_7,c1_8,c1_9,c1_10].drop 10).take (Tryd.prog.cellsOf 26))=some y1_10:=g1_10
 rw[show Tryd.prog.cellsOf 26=1 from by kernel_rfl] at t1_10
 have u1_10:DataW.trod enc Tryd.prog W 0 (fun _=>true) true m1_10 26 [c1_10]=some y1_10:=t1_10
 obtain⟨a1_0,e1_0,x1_0,w1_0⟩:=DataW.trod_int Tryd.underlying3 u1_0
 obtain rfl:c1_0 = .int .i64 a1_0:=by simpa using e1_0
 obtain⟨a1_1,e1_1,x1_1,w1_1⟩:=DataW.trod_int Tryd.underlying25 u1_1
 obtain rfl:c1_1 = .int .u32 a1_1:=by simpa using e1_1
 obtain⟨a1_2,e1_2,x1_2⟩:=DataW.trod_bool Tryd.underlying4 u1_2
 obtain rfl:c1_2 = .bool a1_2:=by simpa using e1_2
 obtain⟨a1_3,e1_3,x1_3⟩:=DataW.trod_bool Tryd.underlying4 u1_3
 obtain rfl:c1_3 = .bool a1_3:=by simpa using e1_3
 obtain⟨a1_4,e1_4,x1_4⟩:=DataW.trod_bool Tryd.underlying4 u1_4
 obtain rfl:c1_4 = .bool a1_4:=by simpa using e1_4
 obtain⟨a1_5,e1_5,x1_5⟩:=DataW.trod_bool Tryd.underlying4 u1_5
 obtain rfl:c1_5 = .bool a1_5:=by simpa using e1_5
 obtain⟨a1_6,e1_6,x1_6⟩:=DataW.trod_bool Tryd.underlying4 u1_6
 obtain rfl:c1_6 = .bool a1_6:=by simpa using e1_6
 obtain⟨a1_7,e1_7,x1_7,w1_7⟩:=DataW.trod_int Tryd.underlying5 u1_7
 obtain rfl:c1_7 = .int .u8 a1_7:=by simpa using e1_7
 obtain⟨a1_8,e1_8,x1_8,w1_8⟩:=DataW.trod_int Tryd.underlying5 u1_8
 obtain rfl:c1_8 = .int .u8 a1_8:=by simpa using e1_8
 obtain⟨a1_9,e1_9,x1_9,w1_9⟩:=DataW.trod_int Tryd.underlying25 u1_9
 obtain rfl:c1_9 = .int .u32 a1_9:=by simpa using e1_9
 obtain⟨a1_10,cap1_10,l1_10,e1_10,hb1_10,n1_10⟩:=bytes_open u1_10
 subst e1_10
 refine (walk W (longer_of hL) a0_0 cap0_0 l0_0 hb0_0 n0_0 rr0_0 a0_1 a1_0 w1_0 a1_1 w1_1 a1_2 a1_3 a1_4 a1_5 a1_6 a1_7 w1_7 a1_8 w1_8 a1_9 w1_9 a1_10 cap1_10 l1_10 hb1_10 n1_10).mono fun e W' ⟨he,bel⟩ => ?_
 subst he
 exact⟨_,rfl,_,_,_,[],_,[],hW',trodAll_mk1 (shut_bool Tryd.underlying4 _),(trodAll_cons_mk (Below.trod laidOut (by kernel_rfl) (of_decide_eq_true (by kernel_rfl)) k0 bel lt0) (trodAll_cons_mk (Below.trod laidOut (by kernel_rfl) (of_decide_eq_true (by kernel_rfl)) k1 bel lt1) trodAll_mk0)),rfl,bel.frame _,fun h=>by cases h⟩
theorem over:Rows.filterSameRow.holds Tryd.pinned (OpenSpec.ofChange Rows.filterSameSpec) :=
 OpenClaim.holds_of_wide 5 Tryd.f5 rfl rfl rfl rfl rfl rfl rfl ⟨rfl,rfl,rfl,rfl,rfl⟩ rfl rfl rfl rfl rfl (by kernel_rfl) Tryd.func5 (by kernel_rfl)
  (of_decide_eq_true (by kernel_rfl)) (by unfold Func.isWrapper;first | (rw[if_pos (by decide +kernel)];kernel_rfl) | (rw[if_neg (by decide +kernel)];exact⟨rfl,rfl⟩))
  (fun os started H enc _=>lifted os started H enc)
theorem plain (f : FuncId) (fn : Func) (hf : Tryd.pinned.checked.prog.funcNamed "omnibus/omnibuslaw15.FilterSame" = some f) (hfn : Tryd.pinned.checked.prog.funcs[f]? = some fn) :
    false=Tryd.pinned.checked.prog.looks []/\∀ (j:Nat) t,fn.params[j]? = some t->Tryd.pinned.checked.prog.wantsStandIn t=false:=by
 obtain rfl : f = 5 := Option.some.inj ((show Tryd.prog.funcNamed "omnibus/omnibuslaw15.FilterSame" = some 5 by kernel_rfl).symm.trans hf) |>.symm
 obtain rfl:fn=Tryd.f5:=(Option.some.inj (Tryd.func5.symm.trans hfn)).symm
 refine⟨by kernel_rfl,fun j t ht => ?_⟩
 rw[Tryd.params5] at ht
 have hm:t∈[24,28]:=by have:=Array.mem_of_getElem? ht;simp at this ⊢;omega
 have hall:([24,28].all fun u => !Tryd.prog.wantsStandIn u)=true:=by kernel_rfl
 exact (show Tryd.prog.wantsStandIn t=false by simpa using List.all_eq_true.1 hall t hm)
theorem proved:Rows.FilterSameCardSaid :=
 Claim7.holds_tied_plain_at .later [] _ _ _ _ over (fun _ h=>by cases h) (by kernel_rfl) (fun _ h=>by cases h) filterSame_row_tie rfl ⟨rfl,rfl⟩ (by kernel_rfl) rfl plain (by kernel_rfl)
#print axioms proved
end Go.Proofs.YtaohmgklhecjbaaDoor.filterSame
