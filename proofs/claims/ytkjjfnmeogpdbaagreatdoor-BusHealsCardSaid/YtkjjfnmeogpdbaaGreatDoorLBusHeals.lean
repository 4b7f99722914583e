/- For every frame, number and choice of nodes the law BusHeals answers true and leaves its arguments as they were; the package's tables are tied to the program's text. No conditions. -/
import Derived.Test.YtkjjfnmeogpdbaaGreatDoorRows
import Derived.Test.YtkjjfnmeogpdbaaGreatDoorCards
import Derived.Test.YtkjjfnmeogpdbaaGreatDoorTie
import Derived.Test.YtkjjfnmeogpdbaaGreatDoorGy
import Derived.Test.YtkjjfnmeogpdbaaGreatDoorHlF
import Derived.Test.YtkjjfnmeogpdbaaGreatDoorNdB
import Derived.Test.YtkjjfnmeogpdbaaGreatDoorGj
import Derived.Test.YtkjjfnmeogpdbaaGreatDoorGa
import Derived.Test.YtkjjfnmeogpdbaaGreatDoorFrmE
import Derived.WalkKit
import Derived.ProofKit
import Derived.OpenShut
import Derived.ShutString
import Derived.ChangeOld
import Derived.Below
import Derived.Carry
import Derived.Lib.SmallJoins
import Derived.Deep.RegionWith
import Derived.Deep.RegionHeld3
import Derived.LaidMore
import Derived.LaidLaws
import Derived.Stop.Joined
import Derived.SevenTiedAt
set_option maxHeartbeats 8000000
set_option maxRecDepth 100000
namespace Go.Proofs.YtkjjfnmeogpdbaaGreatDoor.busHeals
open Go.ChangeShapes Go.WideShapes Go.ChangeAt Go.RowKit Go.Joins
set_option linter.unusedVariables false
set_option linter.unusedSimpArgs false
theorem own:ownKnob Tryz.prog.godebug=none:=by kernel_rfl
theorem laidOut:laidOutB Tryz.prog=true:=by kernel_rfl
theorem arr11{α:Type}{cs:Array α}(h:cs.size=11):∃c0 c1 c2 c3 c4 c5 c6 c7 c8 c9 c10,cs=#[c0,c1,c2,c3,c4,c5,c6,c7,c8,c9,c10]:=by
 obtain⟨l⟩:=cs
 match l,h with
 | [c0,c1,c2,c3,c4,c5,c6,c7,c8,c9,c10],_=>exact⟨c0,c1,c2,c3,c4,c5,c6,c7,c8,c9,c10,rfl⟩
theorem walk (w:World) (hK:z0i w) (a0_0:Int) (w0_0:(Lit.int .i64 a0_0).wf=true) (a0_1:Int) (w0_1:(Lit.int .u32 a0_1).wf=true) (a0_2:Bool) (a0_3:Bool) (a0_4:Bool) (a0_5:Bool) (a0_6:Bool) (a0_7:Int) (w0_7:(Lit.int .u8 a0_7).wf=true) (a0_8:Int) (w0_8:(Lit.int .u8 a0_8).wf=true) (a0_9:Int) (w0_9:(Lit.int .u32 a0_9).wf=true) (a0_10:Option Addr) (cap0_10:Nat) (l0_10:List Nat) (h0_10:Bs w a0_10 cap0_10 l0_10) (n0_10:a0_10=none->cap0_10=0) (a1:Int) (w1:(Lit.int .u16 a1).wf=true) (a2:Int) (w2:(Lit.int .u8 a2).wf=true) :
    Calls Tryz.prog 7 #[.agg #[.int .i64 a0_0,.int .u32 a0_1,.bool a0_2,.bool a0_3,.bool a0_4,.bool a0_5,.bool a0_6,.int .u8 a0_7,.int .u8 a0_8,.int .u32 a0_9,.slice a0_10 l0_10.length cap0_10],.int .u16 a1,.int .u8 a2] w fun e w'=>e = .returned (.bool true)/\Nb w w':=by
 have hL0:=h0_10.len
 have hW:WdX ⟨a0_0,a0_1,a0_2,a0_3,a0_4,a0_5,a0_6,a0_7,a0_8,a0_9⟩:=by
  simp[Lit.wf,IntKind.min,IntKind.max,IntKind.signed,IntKind.bits]at w0_1 w0_7 w0_8 w0_9
  simp only[WdX]
  omega
 have HA:=zH h0_10
 have HN0:=zH n0_10
 have hb0:=zH h0_10.hbyte
 obtain⟨fh,hfe⟩:∃fh:Hd,fh=⟨a0_0,a0_1,a0_2,a0_3,a0_4,a0_5,a0_6,a0_7,a0_8,a0_9⟩:=⟨_,rfl⟩
 have hcs0:∀v,fh.cs v=#[.int .i64 a0_0,.int .u32 a0_1,.bool a0_2,.bool a0_3,.bool a0_4,.bool a0_5,.bool a0_6,.int .u8 a0_7,.int .u8 a0_8,.int .u32 a0_9,v]:=fun v=>by rw[hfe];rfl
 rw[<- hfe]at hW
 have hat:0<=a1/\a1 < 65536:=by
  simp[Lit.wf,IntKind.min,IntKind.max,IntKind.signed,IntKind.bits]at w1
  omega
 have hwh:0<=a2/\a2 < 256:=by
  simp[Lit.wf,IntKind.min,IntKind.max,IntKind.signed,IntKind.bits]at w2
  omega
 obtain⟨n,rfl⟩:=Int.eq_ofNat_of_zero_le hat.1
 obtain⟨q,rfl⟩:=Int.eq_ofNat_of_zero_le hwh.1
 have HK:=zH hK
 have HB:=zH (fun w' (m:Nb w w')=>HK.out.below m)
 obtain⟨W0,hW0⟩:∃W0,W0=w.alloc (.cells #[.int .i64 a0_0,.int .u32 a0_1,.bool a0_2,.bool a0_3,.bool a0_4,.bool a0_5,.bool a0_6,.int .u8 a0_7,.int .u8 a0_8,.int .u32 a0_9,.slice a0_10 l0_10.length cap0_10] 37):=⟨_,rfl⟩
 have QF:=zH (show Blk W0 w.heap.size #[.int .i64 a0_0,.int .u32 a0_1,.bool a0_2,.bool a0_3,.bool a0_4,.bool a0_5,.bool a0_6,.int .u8 a0_7,.int .u8 a0_8,.int .u32 a0_9,.slice a0_10 l0_10.length cap0_10] 37 by rw[hW0];exact Blk.new _ _ _)
 have M0:=zH (show Nb w W0 by rw[hW0];exact Nb.rfl.al _)
 have HW0:=zH hW0
 have F0:=zH (fun w' (n:Nb w w')=>by
  have q:=z0J fh a0_10 cap0_10 l0_10 w' (HA.out.below n) (HK.out.below n).2
  rw[hcs0]at q
  exact q)
 clear hK h0_10 w0_0 w0_1 w0_7 w0_8 w0_9 n0_10 w1 w2 hW0
 cases hok:okF fh l0_10 with
 | false =>
   rw[show zt fh l0_10=2 by simp[zt,hok]]at F0
   clear hok hW hfe hcs0 hat hwh
   go_enter Tryz.func7,Tryz.ntmps7
   go_wp2_with fail
   rw[<- HW0.out]
   refine(ziS _ (HK.out.below M0.out)).mono ?_
   rintro e w1 ⟨rfl,n1⟩
   have K1:=zH n1
   clear n1
   obtain⟨c0,c1,c2,c3,c4,c5,c6,c7,c8,c9,c10⟩:=(QF.out.nb K1.out).c11
   go_wp2_with fail
   refine(F0.out _ (M0.out.tr K1.out)).mono ?_
   rintro e w2 ⟨rfl,n2⟩
   have K2:=zH (K1.out.tr n2)
   clear n2 c0 c1 c2 c3 c4 c5 c6 c7 c8 c9 c10
   obtain⟨c0,c1,c2,c3,c4,c5,c6,c7,c8,c9,c10⟩:=(QF.out.nb K2.out).c11
   go_wp2
   go_ret
   exact⟨rfl,M0.out.tr K2.out⟩
 | true =>
   have hFr:Fr fh l0_10:=⟨hok,hW,hb0.out⟩
   rw[show zt fh l0_10=0 by simp[zt,hok]]at F0
   clear hok
   by_cases hbig:16 < l0_10.length
   ·have d0:decide ((16:Int) < (l0_10.length:Int))=true:=decide_eq_true (by omega)
    clear hbig hW hfe hcs0 hat hwh hFr
    go_enter Tryz.func7,Tryz.ntmps7
    go_wp2_with fail
    rw[<- HW0.out]
    refine(ziS _ (HK.out.below M0.out)).mono ?_
    rintro e w1 ⟨rfl,n1⟩
    have K1:=zH n1
    clear n1
    obtain⟨c0,c1,c2,c3,c4,c5,c6,c7,c8,c9,c10⟩:=(QF.out.nb K1.out).c11
    go_wp2_with fail
    refine(F0.out _ (M0.out.tr K1.out)).mono ?_
    rintro e w2 ⟨rfl,n2⟩
    have K2:=zH (K1.out.tr n2)
    clear n2 c0 c1 c2 c3 c4 c5 c6 c7 c8 c9 c10
    obtain⟨c0,c1,c2,c3,c4,c5,c6,c7,c8,c9,c10⟩:=(QF.out.nb K2.out).c11
    go_wp2
    go_ret
    exact⟨rfl,M0.out.tr K2.out⟩
   have d0:decide ((16:Int) < (l0_10.length:Int))=false:=decide_eq_false (by omega)
   have h16:l0_10.length<=16:=by omega
   have HFr:=zH hFr
   obtain⟨z1,z2,z3,z4⟩:=heal_end hFr h16 n (q%8)
   have hwi:=fun w' (m:Nb W0 w')=>z8h fh a0_10 cap0_10 l0_10 w' (HA.out.below (M0.out.tr m)) hW HN0.out
   obtain⟨k0,hk0⟩:∃k0,11+n%(wF fh l0_10).length=k0:=⟨_,rfl⟩
   rw[hk0]at z1 z2
   generalize wF fh l0_10=Z at hwi z1 z2 z3 z4 hk0
   generalize z2J fh l0_10=qb at hwi
   generalize z2P fh l0_10=qc at hwi
   generalize erF fh l0_10=qd at hwi
   simp only[hcs0]at hwi
   have HWI:=zH hwi
   obtain⟨tm,htm⟩:∃tm,q%8=tm:=⟨_,rfl⟩
   rw[htm]at z1 z2
   have HTM:=zH (show tm < 2^3 by omega)
   have HNQ:=zH (show n < 65536/\q < 256 by omega)
   have HTV:=zH (show(q:Int).tmod 8=(tm:Int)/\(q:Int)%8=(tm:Int)/\tm < 8 from⟨by rw[Int.tmod_eq_emod_of_nonneg (by omega)];omega,by omega,by omega⟩)
   have HZ1:=zH z1
   have HZ2:=zH z2
   obtain⟨j0,hj0⟩:∃j0,n%Z.length=j0:=⟨_,rfl⟩
   have HZK:=zH (show(n:Int).tmod (Z.length:Int)=(j0:Int)/\(n:Int)%(Z.length:Int)=(j0:Int)/\11+j0=k0/\j0 < Z.length from⟨by rw[Int.tmod_eq_emod_of_nonneg (by omega),<- hj0];push_cast;rfl,by rw[<- hj0];push_cast;rfl,by rw[<- hj0];exact hk0,by rw[<- hj0];exact Nat.mod_lt _ (by omega)⟩)
   obtain⟨p1,p2,p3⟩:=heal_new hFr k0 tm
   have hok0:z26 ([true,true,true].map Nd.new):=fun j hj=>by
    rcases(by simp at hj;omega:j=0\/j=1\/j=2)with rfl | rfl | rfl<;>exact z6n true
   have hld1:=fun w' v (h:z4r W0 w' v ([true,true,true].map Nd.new) [])=>h.load 0 fh a0_10 cap0_10 l0_10 hok0 (HB.out w' (M0.out.tr h.nb)) (by simp) (HA.out.below (M0.out.tr h.nb)) HN0.out hW
   rw[p1,p2]at hld1
   simp only[hcs0]at hld1
   have HL1:=zH hld1
   have P3:=zH p3
   clear hld1 hwi hW hfe hcs0 hok0 hFr hbig h16 hat hwh z1 z2 hk0 hj0 p1 p2 p3 htm
   go_enter Tryz.func7,Tryz.ntmps7
   go_wp2_with fail
   rw[<- HW0.out]
   refine(ziS _ (HK.out.below M0.out)).mono ?_
   rintro e w1 ⟨rfl,n1⟩
   have K1:=zH n1
   clear n1
   obtain⟨c0,c1,c2,c3,c4,c5,c6,c7,c8,c9,c10⟩:=(QF.out.nb K1.out).c11
   go_wp2_with fail
   refine(F0.out _ (M0.out.tr K1.out)).mono ?_
   rintro e w2 ⟨rfl,n2⟩
   have K2:=zH (K1.out.tr n2)
   clear n2 c0 c1 c2 c3 c4 c5 c6 c7 c8 c9 c10
   obtain⟨c0,c1,c2,c3,c4,c5,c6,c7,c8,c9,c10⟩:=(QF.out.nb K2.out).c11
   go_wp2_with fail
   refine(new3_any true true true w2.heap.size _ _ (Blk.new _ _ _) (HB.out _ (M0.out.tr (K2.out.al _)))).mono ?_
   rintro e w4 ⟨R,F,rfl,h1,h2,h3⟩
   have hN4:z4r W0 w4 (.pointer (some ⟨R,0,none⟩)) ([true,true,true].map Nd.new) []:=⟨F,h1,fun k hk=>Nat.le_trans (K2.out.al _).size (h2 k hk),(K2.out.al _).tr h3⟩
   generalize hvb:Value.pointer (some ⟨R,0,none⟩)=vb at *
   have HN4:=zH hN4
   clear h1 h2 h3 hN4 hvb c0 c1 c2 c3 c4 c5 c6 c7 c8 c9 c10
   obtain⟨c0,c1,c2,c3,c4,c5,c6,c7,c8,c9,c10⟩:=(QF.out.nb HN4.out.nb).c11
   go_wp2_with fail
   refine(HL1.out _ vb HN4.out).mono ?_
   rintro e w5 ⟨rfl,n5⟩
   have HN5:=zH n5
   clear n5 c0 c1 c2 c3 c4 c5 c6 c7 c8 c9 c10 HL1 HN4
   obtain⟨c0,c1,c2,c3,c4,c5,c6,c7,c8,c9,c10⟩:=(QF.out.nb HN5.out.nb).c11
   go_wp2_with fail
   refine(HWI.out _ HN5.out.nb).mono ?_
   rintro e w6 ⟨⟨aw,cw,rfl,f6⟩,n6⟩
   have HN6:=zH (HN5.out.keep n6)
   obtain⟨QW,hQW⟩:∃QW,QW=w6.heap.size:=⟨_,rfl⟩
   obtain⟨w7,hw7⟩:∃w7,w7=w6.alloc (.cells #[.slice aw Z.length cw,.int .i64 qb,.int .i64 qc] 82):=⟨_,rfl⟩
   have HX7:=zH (show z3a W0 w7 vb _ _ (fun k=>k=QW) by rw[hw7,hQW];exact((z3a.of HN6.out).add (Nb.rfl.al _) (Y:=fun k=>k=w6.heap.size) (fun k hk=>by subst hk;exact⟨Nat.le_refl _,by rw[World.size_alloc];omega⟩)).less (fun k hk => .inr hk))
   have QW7:=zH (show Blk w7 QW #[.slice aw Z.length cw,.int .i64 qb,.int .i64 qc] 82 by rw[hw7,hQW];exact Blk.new _ _ _)
   have HW7:=zH hw7
   have HQW:=zH hQW
   clear n6 f6 HWI HN5 c0 c1 c2 c3 c4 c5 c6 c7 c8 c9 c10 HN6 hw7 hQW
   go_wp2
   rw[<- HW7.out,<- HQW.out]
   go_loopw [11,52] (fun sv ix wr=>∃(i:Nat) (line:List Nat),i<=4*Z.length+400/\ix = .int .i64 i/\sv = .int .i64 (sntH fh l0_10 k0 tm i:Nat)/\z3a W0 wr vb (healL fh l0_10 k0 tm i) line (fun k=>k=QW)/\Blk wr QW #[.slice aw Z.length cw,.int .i64 qb,.int .i64 qc] 82) (fun _ ix _=>4*Z.length+400 - (intOf ix).toNat)
   case atStart=>exact⟨0,_,Nat.zero_le _,rfl,by rw[P3.out];rfl,HX7.out,QW7.out⟩
   case round =>
    obtain⟨i,line,hi,rfl,rfl,hN,hQ⟩:=hrel
    have N:=zH hN
    have QQ:=zH hQ
    clear hN hQ HX7 QW7 P3
    have dz:((Z.length:Int)==0)=false:=by rw[beq_eq_false_iff_ne];omega
    by_cases hlt:i < 4*Z.length+400
    ·obtain⟨s,hs⟩:∃s,sntH fh l0_10 k0 tm i=s:=⟨_,rfl⟩
     rw[hs]
     have HS:=zH hs
     have hlt':decide ((i:Int) < 4*(Z.length:Int)+400)=true:=decide_eq_true (by omega)
     by_cases hk:i=k0
     ·have dk:((i:Int)==11+(j0:Int))=true:=by have:=HZK.out.2.2.1;rw[beq_iff_eq];omega
      have hst:=N.out.step tm (heal_ok HFr.out k0 tm i) (heal_x fh l0_10 k0 tm (by omega)) (HB.out _ (M0.out.tr N.out.nb)) (by rw[heal_len];exact HTM.out)
      obtain⟨v1,v2⟩:=heal_ev HFr.out k0 tm i
      have hnx:z2I (healL fh l0_10 k0 tm i) tm=healL fh l0_10 k0 tm (i+1):=by
       show _=z2I (healL fh l0_10 k0 tm i) (if i=k0 then tm else 0)
       rw[if_pos hk]
      rw[if_pos hk]at v1 v2
      rw[hnx]at hst
      rw[z4T,heal_len]at hst
      have HST:=zH hst
      have hel:(z51 (healL fh l0_10 k0 tm i) tm).length=3:=by rw[z4T,heal_len]
      generalize z51 (healL fh l0_10 k0 tm i) tm=es at *
      generalize z6d (line++[z3e (healL fh l0_10 k0 tm i)])=line2 at *
      have V1:=zH v1
      have V2:=zH v2
      have HEL:=zH hel
      clear hst hnx v1 v2 hel
      obtain⟨u0,u1,u2⟩:=QQ.out.c3
      have ⟨m1,m2,m0,m3⟩:=HZK.out
      have ⟨m7,m8⟩:=HNQ.out
      clear m0
      have ⟨m4,m5,m6⟩:=HTV.out
      clear hk hs
      go_wp2_with fail
      refine HST.out.mono ?_
      rintro e wA ⟨a,c,P,G,rfl,hE,gk,gX,hN2⟩
      obtain⟨bE,hbe,_,_⟩:=hE.hcells (by rw[HEL.out];omega)
      subst hbe
      have NA:=zH (hN2.less (Y:=fun k=>k=QW) (fun k hk => .inl hk))
      have QA:=zH (QQ.out.keep gk (gX QW rfl))
      obtain⟨⟨yk,ye,⟨yK,yI,yX,yR,yB,yE,yS,yD,yV,yA⟩,yl⟩,hy⟩:∃e,es.getD 0 z02=e:=⟨_,rfl⟩
      obtain⟨a',c',⟨x0,_⟩,_,_⟩:=hE.at (by rw[HEL.out];omega) hy
      simp only[Nat.zero_mul]at x0
      have V1:=V1.out
      have V2:=V2.out
      rw[hy]at V1 V2
      clear hN2 hE hy HST N QQ gk gX u0 u1 u2 m1 m2 m3 m7 m8 m4 m5 m6
      by_cases hyk:yk=1
      ·obtain⟨s1,s2⟩:=V1 hyk
       rw[HS.out]at s1
       subst s1
       have d1:(((yk:Nat):Int)==1)=true:=by rw[beq_iff_eq];omega
       clear V1 V2
       go_wp2
       go_roundw
       case rel=>exact⟨i+1,_,by omega,by go_num,by rw[s2];rfl,NA.out,QA.out⟩
       case measure=>simp[intOf];omega
      ·have s2:=V2 hyk
       rw[HS.out]at s2
       have d1:(((yk:Nat):Int)==1)=false:=by rw[beq_eq_false_iff_ne];omega
       clear V1 V2
       go_wp2
       go_roundw
       case rel=>exact⟨i+1,_,by omega,by go_num,by rw[s2],NA.out,QA.out⟩
       case measure=>simp[intOf];omega
     ·have dk:((i:Int)==11+(j0:Int))=false:=by have:=HZK.out.2.2.1;rw[beq_eq_false_iff_ne];omega
      have hst:=N.out.step 0 (heal_ok HFr.out k0 tm i) (heal_x fh l0_10 k0 tm (by omega)) (HB.out _ (M0.out.tr N.out.nb)) (by rw[heal_len];omega)
      obtain⟨v1,v2⟩:=heal_ev HFr.out k0 tm i
      have hnx:z2I (healL fh l0_10 k0 tm i) 0=healL fh l0_10 k0 tm (i+1):=by
       show _=z2I (healL fh l0_10 k0 tm i) (if i=k0 then tm else 0)
       rw[if_neg hk]
      rw[if_neg hk]at v1 v2
      rw[hnx]at hst
      rw[z4T,heal_len]at hst
      have HST:=zH hst
      have hel:(z51 (healL fh l0_10 k0 tm i) 0).length=3:=by rw[z4T,heal_len]
      generalize z51 (healL fh l0_10 k0 tm i) 0=es at *
      generalize z6d (line++[z3e (healL fh l0_10 k0 tm i)])=line2 at *
      have V1:=zH v1
      have V2:=zH v2
      have HEL:=zH hel
      clear hst hnx v1 v2 hel
      obtain⟨u0,u1,u2⟩:=QQ.out.c3
      have ⟨m1,m2,m0,m3⟩:=HZK.out
      have ⟨m7,m8⟩:=HNQ.out
      clear m0
      clear hk hs
      go_wp2_with fail
      refine HST.out.mono ?_
      rintro e wA ⟨a,c,P,G,rfl,hE,gk,gX,hN2⟩
      obtain⟨bE,hbe,_,_⟩:=hE.hcells (by rw[HEL.out];omega)
      subst hbe
      have NA:=zH (hN2.less (Y:=fun k=>k=QW) (fun k hk => .inl hk))
      have QA:=zH (QQ.out.keep gk (gX QW rfl))
      obtain⟨⟨yk,ye,⟨yK,yI,yX,yR,yB,yE,yS,yD,yV,yA⟩,yl⟩,hy⟩:∃e,es.getD 0 z02=e:=⟨_,rfl⟩
      obtain⟨a',c',⟨x0,_⟩,_,_⟩:=hE.at (by rw[HEL.out];omega) hy
      simp only[Nat.zero_mul]at x0
      have V1:=V1.out
      have V2:=V2.out
      rw[hy]at V1 V2
      clear hN2 hE hy HST N QQ gk gX u0 u1 u2 m1 m2 m3 m7 m8
      by_cases hyk:yk=1
      ·obtain⟨s1,s2⟩:=V1 hyk
       rw[HS.out]at s1
       subst s1
       have d1:(((yk:Nat):Int)==1)=true:=by rw[beq_iff_eq];omega
       clear V1 V2
       go_wp2
       go_roundw
       case rel=>exact⟨i+1,_,by omega,by go_num,by rw[s2];rfl,NA.out,QA.out⟩
       case measure=>simp[intOf];omega
      ·have s2:=V2 hyk
       rw[HS.out]at s2
       have d1:(((yk:Nat):Int)==1)=false:=by rw[beq_eq_false_iff_ne];omega
       clear V1 V2
       go_wp2
       go_roundw
       case rel=>exact⟨i+1,_,by omega,by go_num,by rw[s2],NA.out,QA.out⟩
       case measure=>simp[intOf];omega
    ·have hlt':decide ((i:Int) < 4*(Z.length:Int)+400)=false:=decide_eq_false (by omega)
     obtain rfl:i=4*Z.length+400:=by omega
     rw[HZ1.out]
     have hst:=N.out.n.state 0 (heal_ok HFr.out k0 tm _) (HB.out _ (M0.out.tr N.out.nb)) (by rw[heal_len];omega)
     have hz2:=HZ2.out
     generalize (healL fh l0_10 k0 tm (4*Z.length+400)).getD 0 dN=nd at *
     simp only[stV,hz2]at hst
     have HST:=zH hst
     have NN:=zH N.out.nb
     clear hst N QQ
     go_wp2_with fail
     refine HST.out.mono ?_
     rintro e w7 ⟨rfl,n7⟩
     have N7:=zH (NN.out.tr n7)
     clear n7
     go_wp2
     go_ret
     first | exact⟨rfl,M0.out.tr (N7.out.al _)⟩ | exact⟨rfl,M0.out.tr N7.out⟩
theorem door_met(os:Os)(args:Array Value):laidMetH Tryz.prog Rows.busHealsRow.laid ((World.doorLaid Tryz.prog 24 os).forCall (fun _ _=>0) ⟨#[],args,[]⟩).memory :=
 laidMetH_of_parts3 (fuel:=8) (laidMet_of_run' 8 (by kernel_rfl) (by kernel_rfl)) (by kernel_rfl) (by kernel_rfl)
theorem lifted (os:Os) (started:os.Started) (H:Type) (enc:TypeId × Value->H) :
    ReturnsInHanded {} Tryz.checked os 7 .any (fun w args=>(Rows.busHealsSpec.pre enc Tryz.prog Tryz.f7 [] false w args/\laidMetH Tryz.prog Rows.busHealsRow.laid w)/\sizedMet enc Tryz.prog Tryz.f7 (OpenSpec.ofChange Rows.busHealsSpec) false w args)
     (Rows.busHealsSpec.post enc Tryz.prog Tryz.f7 false true false false):=by
 refine returnsInHanded_of_change_and (C:=Tryz.checked) (X:=fun w _=>laidMetH Tryz.prog Rows.busHealsRow.laid w) (fun _ _ _ hh h=>h.of_heap hh) own started (by kernel_rfl) Tryz.func7
  (ChangeSpec.witness_shaped (enc:=enc) (C:=Tryz.checked) (os:=os) (X:=fun w _=>laidMetH Tryz.prog Rows.busHealsRow.laid w) false (World.doorLaid Tryz.prog 24 os) #[.agg #[.int .i64 0,.int .u32 0,.bool false,.bool false,.bool false,.bool false,.bool false,.int .u8 0,.int .u8 0,.int .u32 0,.slice none 0 0],.int .u16 0,.int .u8 0] 8 rfl (World.shaped_of_RefB (by kernel_rfl) (by kernel_rfl)) (by kernel_rfl) (by kernel_rfl) (by kernel_rfl) (door_met os _)) ?_
 intro W base args ds gs before hval0 hW _ hR hL _
 have hval:∀(j:Nat) t v,Tryz.f7.params[j]? = some t->args[j]? = some v->Value.okWide Tryz.prog W .any base t v:=hval0
 have hW':=hW
 obtain⟨p,q,hA0,hV,rfl,hfz,hnd⟩:=hW
 have hA:DataW.TrodAll enc Tryz.prog W 0 (fun _=>true) true Tryz.f7.params.toList args.toList ds p:=hA0
 rw[Tryz.params7]at hA hval
 obtain⟨v0,vs0,d0,ds0,p0,q0,hargs,rfl,rfl,h0,r0⟩:=trodAll_cons hA
 obtain⟨v1,vs1,d1,ds1,p1,q1,rfl,rfl,rfl,h1,r1⟩:=trodAll_cons r0
 obtain⟨v2,vs2,d2,ds2,p2,q2,rfl,rfl,rfl,h2,r2⟩:=trodAll_cons r1
 obtain⟨rfl,rfl,rfl⟩:=trodAll_nil r2
 obtain rfl:args=#[v0,v1,v2]:=by cases args;simp_all
 obtain⟨rfl,rfl⟩:=trodVars_none hV
 have k0:=h0
 have lt0:∀x∈p0,x.block < W.heap.size:=by obtain⟨m,hm⟩:=k0;exact DataW.trod_lt m _ _ _ hm
 have k1:=h1
 have lt1:∀x∈p1,x.block < W.heap.size:=by obtain⟨m,hm⟩:=k1;exact DataW.trod_lt m _ _ _ hm
 have k2:=h2
 have lt2:∀x∈p2,x.block < W.heap.size:=by obtain⟨m,hm⟩:=k2;exact DataW.trod_lt m _ _ _ hm
 clear hA0
 obtain⟨cs0,rfl,hz0⟩:=okWide_struct Tryz.underlying37 (hval 0 37 v0 rfl rfl)
 obtain⟨c0_0,c0_1,c0_2,c0_3,c0_4,c0_5,c0_6,c0_7,c0_8,c0_9,c0_10,rfl⟩:=arr11 (hz0.trans (by kernel_rfl))
 obtain⟨fu0,hf0⟩:=h0
 have hc0:DataW.trod enc Tryz.prog W 0 (fun _=>true) true fu0 37 [c0_0,c0_1,c0_2,c0_3,c0_4,c0_5,c0_6,c0_7,c0_8,c0_9,c0_10]=some (d0,p0):=hf0
 obtain⟨m0_0,y0_0,g0_0⟩:=z15 Tryz.underlying37 hc0 0 _ rfl
 have t0_0:DataW.trod enc Tryz.prog W 0 (fun _=>true) true m0_0 3 (([c0_0,c0_1,c0_2,c0_3,c0_4,c0_5,c0_6,c0_7,c0_8,c0_9,c0_10].drop 0).take (Tryz.prog.cellsOf 3))=some y0_0:=g0_0
 rw[show Tryz.prog.cellsOf 3=1 from by kernel_rfl]at t0_0
 have u0_0:DataW.trod enc Tryz.prog W 0 (fun _=>true) true m0_0 3 [c0_0]=some y0_0:=t0_0
 obtain⟨m0_1,y0_1,g0_1⟩:=z15 Tryz.underlying37 hc0 1 _ rfl
 have t0_1:DataW.trod enc Tryz.prog W 0 (fun _=>true) true m0_1 34 (([c0_0,c0_1,c0_2,c0_3,c0_4,c0_5,c0_6,c0_7,c0_8,c0_9,c0_10].drop 1).take (Tryz.prog.cellsOf 34))=some y0_1:=g0_1
 rw[show Tryz.prog.cellsOf 34=1 from by kernel_rfl]at t0_1
 have u0_1:DataW.trod enc Tryz.prog W 0 (fun _=>true) true m0_1 34 [c0_1]=some y0_1:=t0_1
 obtain⟨m0_2,y0_2,g0_2⟩:=z15 Tryz.underlying37 hc0 2 _ rfl
 have t0_2:DataW.trod enc Tryz.prog W 0 (fun _=>true) true m0_2 4 (([c0_0,c0_1,c0_2,c0_3,c0_4,c0_5,c0_6,c0_7,c0_8,c0_9,c0_10].drop 2).take (Tryz.prog.cellsOf 4))=some y0_2:=g0_2
 rw[show Tryz.prog.cellsOf 4=1 from by kernel_rfl]at t0_2
 have u0_2:DataW.trod enc Tryz.prog W 0 (fun _=>true) true m0_2 4 [c0_2]=some y0_2:=t0_2
 obtain⟨m0_3,y0_3,g0_3⟩:=z15 Tryz.underlying37 hc0 3 _ rfl
 have t0_3:DataW.trod enc Tryz.prog W 0 (fun _=>true) true m0_3 4 (([c0_0,c0_1,c0_2,c0_3,c0_4,c0_5,c0_6,c0_7,c0_8,c0_9,c0_10].drop 3).take (Tryz.prog.cellsOf 4))=some y0_3:=g0_3
 rw[show Tryz.prog.cellsOf 4=1 from by kernel_rfl]at t0_3
 have u0_3:DataW.trod enc Tryz.prog W 0 (fun _=>true) true m0_3 4 [c0_3]=some y0_3:=t0_3
 obtain⟨m0_4,y0_4,g0_4⟩:=z15 Tryz.underlying37 hc0 4 _ rfl
 have t0_4:DataW.trod enc Tryz.prog W 0 (fun _=>true) true m0_4 4 (([c0_0,c0_1,c0_2,c0_3,c0_4,c0_5,c0_6,c0_7,c0_8,c0_9,c0_10].drop 4).take (Tryz.prog.cellsOf 4))=some y0_4:=g0_4
 rw[show Tryz.prog.cellsOf 4=1 from by kernel_rfl]at t0_4
 have u0_4:DataW.trod enc Tryz.prog W 0 (fun _=>true) true m0_4 4 [c0_4]=some y0_4:=t0_4
 obtain⟨m0_5,y0_5,g0_5⟩:=z15 Tryz.underlying37 hc0 5 _ rfl
 have t0_5:DataW.trod enc Tryz.prog W 0 (fun _=>true) true m0_5 4 (([c0_0,c0_1,c0_2,c0_3,c0_4,c0_5,c0_6,c0_7,c0_8,c0_9,c0_10].drop 5).take (Tryz.prog.cellsOf 4))=some y0_5:=g0_5
 rw[show Tryz.prog.cellsOf 4=1 from by kernel_rfl]at t0_5
 have u0_5:DataW.trod enc Tryz.prog W 0 (fun _=>true) true m0_5 4 [c0_5]=some y0_5:=t0_5
 obtain⟨m0_6,y0_6,g0_6⟩:=z15 Tryz.underlying37 hc0 6 _ rfl
 have t0_6:DataW.trod enc Tryz.prog W 0 (fun _=>true) true m0_6 4 (([c0_0,c0_1,c0_2,c0_3,c0_4,c0_5,c0_6,c0_7,c0_8,c0_9,c0_10].drop 6).take (Tryz.prog.cellsOf 4))=some y0_6:=g0_6
 rw[show Tryz.prog.cellsOf 4=1 from by kernel_rfl]at t0_6
 have u0_6:DataW.trod enc Tryz.prog W 0 (fun _=>true) true m0_6 4 [c0_6]=some y0_6:=t0_6
 obtain⟨m0_7,y0_7,g0_7⟩:=z15 Tryz.underlying37 hc0 7 _ rfl
 have t0_7:DataW.trod enc Tryz.prog W 0 (fun _=>true) true m0_7 5 (([c0_0,c0_1,c0_2,c0_3,c0_4,c0_5,c0_6,c0_7,c0_8,c0_9,c0_10].drop 7).take (Tryz.prog.cellsOf 5))=some y0_7:=g0_7
 rw[show Tryz.prog.cellsOf 5=1 from by kernel_rfl]at t0_7
 have u0_7:DataW.trod enc Tryz.prog W 0 (fun _=>true) true m0_7 5 [c0_7]=some y0_7:=t0_7
 obtain⟨m0_8,y0_8,g0_8⟩:=z15 Tryz.underlying37 hc0 8 _ rfl
 have t0_8:DataW.trod enc Tryz.prog W 0 (fun _=>true) true m0_8 5 (([c0_0,c0_1,c0_2,c0_3,c0_4,c0_5,c0_6,c0_7,c0_8,c0_9,c0_10].drop 8).take (Tryz.prog.cellsOf 5))=some y0_8:=g0_8
 rw[show Tryz.prog.cellsOf 5=1 from by kernel_rfl]at t0_8
 have u0_8:DataW.trod enc Tryz.prog W 0 (fun _=>true) true m0_8 5 [c0_8]=some y0_8:=t0_8
 obtain⟨m0_9,y0_9,g0_9⟩:=z15 Tryz.underlying37 hc0 9 _ rfl
 have t0_9:DataW.trod enc Tryz.prog W 0 (fun _=>true) true m0_9 34 (([c0_0,c0_1,c0_2,c0_3,c0_4,c0_5,c0_6,c0_7,c0_8,c0_9,c0_10].drop 9).take (Tryz.prog.cellsOf 34))=some y0_9:=g0_9
 rw[show Tryz.prog.cellsOf 34=1 from by kernel_rfl]at t0_9
 have u0_9:DataW.trod enc Tryz.prog W 0 (fun _=>true) true m0_9 34 [c0_9]=some y0_9:=t0_9
 obtain⟨m0_10,y0_10,g0_10⟩:=z15 Tryz.underlying37 hc0 10 _ rfl
 have t0_10:DataW.trod enc Tryz.prog W 0 (fun _=>true) true m0_10 35 (([c0_0,c0_1,c0_2,c0_3,c0_4,c0_5,c0_6,c0_7,c0_8,c0_9,c0_10].drop 10).take (Tryz.prog.cellsOf 35))=some y0_10:=g0_10
 rw[show Tryz.prog.cellsOf 35=1 from by kernel_rfl]at t0_10
 have u0_10:DataW.trod enc Tryz.prog W 0 (fun _=>true) true m0_10 35 [c0_10]=some y0_10:=t0_10
 obtain⟨a0_0,e0_0,x0_0,w0_0⟩:=DataW.trod_int Tryz.underlying3 u0_0
 obtain rfl:c0_0 = .int .i64 a0_0:=by simpa using e0_0
 obtain⟨a0_1,e0_1,x0_1,w0_1⟩:=DataW.trod_int Tryz.underlying34 u0_1
 obtain rfl:c0_1 = .int .u32 a0_1:=by simpa using e0_1
 obtain⟨a0_2,e0_2,x0_2⟩:=DataW.trod_bool Tryz.underlying4 u0_2
 obtain rfl:c0_2 = .bool a0_2:=by simpa using e0_2
 obtain⟨a0_3,e0_3,x0_3⟩:=DataW.trod_bool Tryz.underlying4 u0_3
 obtain rfl:c0_3 = .bool a0_3:=by simpa using e0_3
 obtain⟨a0_4,e0_4,x0_4⟩:=DataW.trod_bool Tryz.underlying4 u0_4
 obtain rfl:c0_4 = .bool a0_4:=by simpa using e0_4
 obtain⟨a0_5,e0_5,x0_5⟩:=DataW.trod_bool Tryz.underlying4 u0_5
 obtain rfl:c0_5 = .bool a0_5:=by simpa using e0_5
 obtain⟨a0_6,e0_6,x0_6⟩:=DataW.trod_bool Tryz.underlying4 u0_6
 obtain rfl:c0_6 = .bool a0_6:=by simpa using e0_6
 obtain⟨a0_7,e0_7,x0_7,w0_7⟩:=DataW.trod_int Tryz.underlying5 u0_7
 obtain rfl:c0_7 = .int .u8 a0_7:=by simpa using e0_7
 obtain⟨a0_8,e0_8,x0_8,w0_8⟩:=DataW.trod_int Tryz.underlying5 u0_8
 obtain rfl:c0_8 = .int .u8 a0_8:=by simpa using e0_8
 obtain⟨a0_9,e0_9,x0_9,w0_9⟩:=DataW.trod_int Tryz.underlying34 u0_9
 obtain rfl:c0_9 = .int .u32 a0_9:=by simpa using e0_9
 obtain⟨a0_10,cap0_10,l0_10,e0_10,hb0_10,n0_10⟩:=zbO u0_10
 subst e0_10
 obtain⟨a1,rfl,rfl,rfl,w1⟩:=open_int Tryz.underlying87 (hval 1 87 v1 rfl rfl) h1
 obtain⟨a2,rfl,rfl,rfl,w2⟩:=open_int Tryz.underlying5 (hval 2 5 v2 rfl rfl) h2
 refine(walk W (zls hL) a0_0 w0_0 a0_1 w0_1 a0_2 a0_3 a0_4 a0_5 a0_6 a0_7 w0_7 a0_8 w0_8 a0_9 w0_9 a0_10 cap0_10 l0_10 hb0_10 n0_10 a1 w1 a2 w2).mono fun e W' ⟨he,bel⟩ => ?_
 subst he
 exact⟨_,rfl,_,_,_,[],_,[],hW',trodAll_mk1 (shut_bool Tryz.underlying4 _),(trodAll_cons_mk (Below.trod laidOut (by kernel_rfl) (of_decide_eq_true (by kernel_rfl)) k0 bel lt0) (trodAll_cons_mk (Below.trod laidOut (by kernel_rfl) (of_decide_eq_true (by kernel_rfl)) k1 bel lt1) (trodAll_cons_mk (Below.trod laidOut (by kernel_rfl) (of_decide_eq_true (by kernel_rfl)) k2 bel lt2) trodAll_mk0))),rfl,bel.frame _,fun h=>by cases h⟩
theorem over:Rows.busHealsRow.holds Tryz.pinned (OpenSpec.ofChange Rows.busHealsSpec) :=
 OpenClaim.holds_of_wide 7 Tryz.f7 rfl rfl rfl rfl rfl rfl rfl ⟨rfl,rfl,rfl,rfl,rfl⟩ rfl rfl rfl rfl rfl (by kernel_rfl) Tryz.func7 (by kernel_rfl)
  (of_decide_eq_true (by kernel_rfl)) (by unfold Func.isWrapper;first | (rw[if_pos (by decide +kernel)];kernel_rfl) | (rw[if_neg (by decide +kernel)];exact⟨rfl,rfl⟩))
  (fun os started H enc _=>lifted os started H enc)
theorem plain (f : FuncId) (fn : Func) (hf : Tryz.pinned.checked.prog.funcNamed "omnibus/omnibuslaw13.BusHeals" = some f) (hfn : Tryz.pinned.checked.prog.funcs[f]? = some fn) :
    true=Tryz.pinned.checked.prog.looks []/\∀(j:Nat) t,fn.params[j]? = some t->Tryz.pinned.checked.prog.wantsStandIn t=false:=by
 obtain rfl : f = 7 := Option.some.inj ((show Tryz.prog.funcNamed "omnibus/omnibuslaw13.BusHeals" = some 7 by kernel_rfl).symm.trans hf) |>.symm
 obtain rfl:fn=Tryz.f7:=(Option.some.inj (Tryz.func7.symm.trans hfn)).symm
 refine⟨by kernel_rfl,fun j t ht => ?_⟩
 rw[Tryz.params7]at ht
 have hm:t∈[37,87,5]:=by have:=Array.mem_of_getElem? ht;simp at this ⊢;omega
 have hall:([37,87,5].all fun u => !Tryz.prog.wantsStandIn u)=true:=by kernel_rfl
 exact(show Tryz.prog.wantsStandIn t=false by simpa using List.all_eq_true.1 hall t hm)
theorem proved:Rows.BusHealsCardSaid :=
 Claim7.holds_tied_plain_at .later [] _ _ _ _ over (fun _ h=>by cases h) (by kernel_rfl) (fun _ h=>by cases h) busHeals_row_tie rfl ⟨rfl,rfl⟩ (by kernel_rfl) rfl plain (by kernel_rfl)
#print axioms proved
end Go.Proofs.YtkjjfnmeogpdbaaGreatDoor.busHeals
