/- For every bools and frames the law BusCalm answers true and leaves its arguments as they were; the package's tables are tied to the program's text. No conditions. -/
import Derived.Test.YtplbmlpdefpplaaGreatDoorRows
import Derived.Test.YtplbmlpdefpplaaGreatDoorCards
import Derived.Test.YtplbmlpdefpplaaGreatDoorTie
import Derived.Test.YtplbmlpdefpplaaGreatDoorGca
set_option maxHeartbeats 12000000
set_option maxRecDepth 100000
namespace Go.Proofs.YtplbmlpdefpplaaGreatDoor.busCalm
open Go.ChangeShapes Go.WideShapes Go.ChangeAt Go.RowKit Go.Joins
set_option linter.unusedVariables false
set_option linter.unusedSimpArgs false
theorem own:ownKnob Tryz.prog.godebug=none:=by kernel_rfl
theorem laidOut:laidOutB Tryz.prog=true:=by kernel_rfl
open Go.Maps
theorem kept{w u:World}(n:Nb w u){p:Addr}{v:Value}(h:w.cell? p=some v):u.cell? p=some v:=by
 rw[n.cell (World.block_lt_of_cell? _ _ h)]
 exact h
theorem idle_st{n:Nd}(h1:n.ph=1)(h2:n.c=0)(h3:n.fa=Fa.zero)(h4:n.has=false):stV n = .agg #[.int .i64 1,.int .i64 0,.int .i64 0,.int .i64 0,.bool false,.bool false]:=by
 simp[stV,Nd.count,h1,h2,h3,h4,Fa.zero]
theorem walk (w:World) (hK:z0i w) (a0:Option Addr) (cap0:Nat) (l0:List Bool) (h0:Bls w a0 cap0 l0) (n0:a0=none->cap0=0) (a1:Option Addr) (cap1:Nat) (l1:List (Hd × List Nat)) (h1:z28 w a1 cap1 l1) (n1:a1=none->cap1=0) :
    Calls Tryz.prog 3 #[.slice a0 l0.length cap0,.slice a1 l1.length cap1] w fun e w'=>e = .returned (.bool true)/\Nb w w':=by
 have hL0:=h0.len
 have hL1:=h1.len
 have HK:=zH hK
 have HB:=zH (fun w' (m:Nb w w')=>HK.out.below m)
 have HKN:=zH h0
 have HF:=zH h1
 clear hK h0 h1 n0 n1
 go_enter Tryz.func3,Tryz.ntmps3
 go_wp2_with fail
 refine(ziS _ (HB.out _ Nb.rfl)).mono ?_
 rintro e w1 ⟨rfl,n1⟩
 have N1:=zH n1
 clear n1
 go_wp2_with fail
 refine(zld _ _ _ _ _ _ _ (HKN.out.below N1.out) (HF.out.below N1.out) (HB.out _ N1.out).2).mono ?_
 rintro e w2 ⟨r,rfl,hr,n2⟩
 have N2:=zH (N1.out.tr n2)
 clear n2
 cases r with
 | false =>
   clear hr
   go_wp2
   go_ret
   exact⟨rfl,N2.out⟩
 | true =>
   have CC:=zH (hr rfl)
   have WW:=zH HF.out.wd
   have CO:=zH (zjX CC.out WW.out)
   clear hr
   go_wp2_with fail
   refine(zk4 _ _ _ _ _ _ _ (HKN.out.below N2.out) (HF.out.below N2.out) (HB.out _ N2.out) CC.out).mono ?_
   rintro e w3 ⟨vb,ov,L,line,ns,X,rfl,hX,hOw,hTl,hmap,hId,-,hOk,hXo⟩
   have NX:=zH hX
   have OW:=zH hOw
   have TL:=zH hTl
   have MP:=zH hmap
   have ID:=zH hId
   have OK:=zH hOk
   have N3:=zH (N2.out.tr hX.nb)
   clear hX hOw hTl hmap hId hOk hXo
   have hall:z4E l1=true:=by
    unfold z4E
    rw[List.all_eq_true]
    intro p hp
    obtain⟨j,hj,rfl⟩:=List.getElem_of_mem hp
    have:=(CC.out.each j hj).1
    simpa [List.getD,hj]using this
   have hrk:=zjC a1 cap1 l1 w3 (HF.out.below N3.out) (by have:=CC.out.le;have:=CC.out.n6;omega) (HB.out _ N3.out).2
   rw[show zkR l1=rk (z0E l1) by rw[zkR,if_pos hall];rfl,show zkj l1=0 by rw[zkj,if_pos hall]]at hrk
   have hrl:(rk (z0E l1)).length=l1.length:=CO.out.ol
   have HRL:=zH hrl
   have HRK:=zH hrk
   unfold zmh at HRK
   generalize rk (z0E l1)=rs at *
   clear hrk hall hrl
   go_wp2_with fail
   refine HRK.out.mono ?_
   rintro e w4 ⟨⟨v2,rfl,o2,f2⟩,n4⟩
   have O2:=zH o2
   have M4:=zH n4
   obtain⟨va,vc,hve,hva,-,-⟩:=o2.shape
   rw[HRL.out]at hve
   subst hve
   obtain⟨ta,tc,htv,_⟩:=OW.out.at
   subst htv
   have N4:=zH (N3.out.tr n4)
   clear n4 o2 f2 HRK
   go_wp2
   go_loopw [10,47] (fun av ix wr=>∃k:Nat,k<=l1.length/\ix = .int .i64 k/\av = .int .i64 (zeU l0 l1 rs k:Nat)/\Nb w4 wr) (fun _ ix _=>l1.length - (intOf ix).toNat)
   case atStart=>exact⟨0,Nat.zero_le _,rfl,rfl,Nb.rfl⟩
   case round =>
    obtain⟨k,hk,rfl,rfl,hN⟩:=hrel
    have N5:=zH hN
    clear hN
    by_cases hlt:k < l1.length
    ·have hlt':decide ((k:Int) < (l1.length:Int))=true:=decide_eq_true (by omega)
     have hwho:=CO.out.olt k hlt
     obtain⟨who,hw⟩:∃who,rs.getD k 0=who:=⟨_,rfl⟩
     rw[hw]at hwho
     obtain⟨g,rfl⟩:=hva (by rw[HRL.out];omega)
     have cR:=(O2.out.nb N5.out).cell k (by rw[HRL.out];exact hlt)
     rw[hw]at cR
     have hNw:=N4.out.tr N5.out
     obtain⟨bF,oF,rfl,_⟩:=HF.out.hcells (by omega)
     obtain⟨⟨⟨K,I,X,R,B,E,S,D,V,A⟩,lf⟩,hf⟩:∃x,l1.getD who dF=x:=⟨_,rfl⟩
     obtain⟨fa,fc,⟨t0,t1,t2,t3,t4,t5,t6,t7,t8,t9,t10⟩,hWf,_,hBf,hNf⟩:=(HF.out.below hNw).at hwho hf
     have hfr:frK l1 rs k=(⟨K,I,X,R,B,E,S,D,V,A⟩,lf):=by unfold frK fsD;rw[hw];exact hf
     have hn2:=CC.out.n2
     have hn6:=CC.out.n6
     obtain⟨bK,oK,rfl,hKc⟩:=HKN.out.hcells (by omega)
     have KC:=zH (fun w' (n:Nb w w') j (hj:j < l0.length)=>(show w'.cell? ⟨bK,oK+j,none⟩=some (.bool (l0.getD j false))from by
      rw[n.cell (p:=⟨bK,oK+j,none⟩) (World.block_lt_of_cell? _ _ (hKc j hj))]
      exact hKc j hj))
     obtain⟨of0,hof⟩:∃x,zeU l0 l1 rs k=x:=⟨_,rfl⟩
     obtain⟨sl,hsl⟩:∃x,(z9L l0 l1 rs k).length=x:=⟨_,rfl⟩
     have SEG:=zH (fun m (hm:m < sl)=>zlf CO.out hlt (m:=m) (by rw[hsl];exact hm) MP.out)
     have WSZ:=zH (fun m (hm:m<=sl)=>zkg (kns:=l0) (fs:=l1) (o:=rs) (k:=k) (m:=m) (by rw[hsl];exact hm))
     have WL:=zH ((zla CO.out hlt).trans hsl)
     have WB:=zH (fun j=>(show zdB l0 l1 rs k j=((j==who)||l0.getD j false || !decide (K=3))from by unfold zdB;rw[hw,hfr]))
     have OFN:=zH (show zeU l0 l1 rs (k+1)=of0+sl by rw[zeU,hof,hsl])
     have hsl6:sl<=6:=by
      have h2:=WL.out
      have h3:zfz l0 l1 rs k l0.length<=l0.length:=by unfold zfz;exact Nat.le_trans (List.length_filter_le _ _) (by simp)
      omega
     have hof6:of0<=k*6:=by
      rw[<- hof]
      have key:∀q,q<=k->zeU l0 l1 rs q<=q*6:=fun q=>by
       induction q with
       | zero=>intro _;exact Nat.le_refl _
       | succ q ih =>
         intro hq
         have h1:=ih (by omega)
         have h2:=zla CO.out (k:=q) (by omega)
         have h3:zfz l0 l1 rs q l0.length<=l0.length:=by unfold zfz;exact Nat.le_trans (List.length_filter_le _ _) (by simp)
         rw[zeU]
         omega
      exact key k (Nat.le_refl _)
     have hk6:k < 6:=by have:=CC.out.le;omega
     rw[hof,hw]at SEG
     simp only[hfr]at SEG
     rw[hof]
     have WLI:=zH (show w.heap.size<=wr.heap.size from hNw.size)
     have BFF:=zH hBf
     have NBW:=zH hNw
     have hmm:=@run_makeMap Tryz.prog
     clear hf hWf hBf hNf hfr hof hsl hKc hNw hw
     go_wp2
     obtain⟨FB,hFB⟩:∃FB,FB=wr.heap.size:=⟨_,rfl⟩
     obtain⟨z2,hz2⟩:∃z2,z2=(wr.alloc (.cells #[.int .i64 K,.int .u32 I,.bool X,.bool R,.bool B,.bool E,.bool S,.int .u8 D,.int .u8 V,.int .u32 A,.slice fa lf.length fc] 37)).alloc (.map #[] 0):=⟨_,rfl⟩
     have HMP:=zH (show z2.ownsMap Tryz.prog 3 (plainElem (H:=Unit) Tryz.prog 4) (FB+1) 0 (Dm []) by
      have q:=World.ownsMap_made (H:=Unit) (wr.alloc (.cells #[.int .i64 K,.int .u32 I,.bool X,.bool R,.bool B,.bool E,.bool S,.int .u8 D,.int .u8 V,.int .u32 A,.slice fa lf.length fc] 37)) Tryz.prog 3 (plainElem (H:=Unit) Tryz.prog 4)
      rw[World.size_alloc,<- hFB,<- hz2]at q
      exact q)
     have QF:=zH (show Blk z2 FB #[.int .i64 K,.int .u32 I,.bool X,.bool R,.bool B,.bool E,.bool S,.int .u8 D,.int .u8 V,.int .u32 A,.slice fa lf.length fc] 37 by rw[hz2,hFB];exact(Blk.new _ _ _).nb (Nb.rfl.al _))
     have NZ:=zH (show Nb wr z2 by rw[hz2];exact(Nb.rfl.al _).al _)
     have SZ2:=zH (show z2.heap.size=FB+2 by rw[hz2,hFB,World.size_alloc,World.size_alloc])
     rw[<- hz2,<- hFB]
     have HFB:=zH hFB
     clear hz2 hFB t0 t1 t2 t3 t4 t5 t6 t7 t8 t9 t10 cR hmm
     have NO:=zH (fun wI (hk:Kp (fun x=>x=FB+1) z2 wI)=>(show Nb wr wI from NZ.out.trans (hk.toBelow NZ.out.size (fun x hx=>by have:=HFB.out;omega))))
     have NI:=zH (fun wI (hk:Kp (fun x=>x=FB+1) z2 wI)=>(show Nb w4 wI from N5.out.tr (NO.out wI hk)))
     have BFI:=zH (fun wI (hk:Kp (fun x=>x=FB+1) z2 wI)=>(show Bs wI fa fc lf from BFF.out.below (NO.out wI hk)))
     go_loop [15,58] (fun s i=>∃j:Nat,j<=l0.length/\i = .int .i64 j/\s = .int .i64 (zfz l0 l1 rs k j:Nat)) (fun _ i=>l0.length - (intOf i).toNat)
     case atStart=>exact⟨0,Nat.zero_le _,rfl,rfl⟩
     case round =>
      obtain⟨j,hj,rfl,rfl⟩:=hrel
      have hwj:zfz l0 l1 rs k j<=j:=by unfold zfz;exact Nat.le_trans (List.length_filter_le _ _) (by simp)
      by_cases hltj:j < l0.length
      ·have hltj':decide ((j:Int) < (l0.length:Int))=true:=decide_eq_true (by omega)
       have cK:=KC.out z2 (NBW.out.tr NZ.out) j hltj
       have cF:z2.cell? ⟨FB,0,none⟩=some (.int .i64 K):=QF.out.cell 0
       have wn:=zjL l0 l1 rs k j
       rw[WB.out j]at wn
       obtain⟨bj,hbj⟩:∃b,l0.getD j false=b:=⟨_,rfl⟩
       rw[hbj]at cK wn
       obtain⟨wj,hwj2⟩:∃x,zfz l0 l1 rs k j=x:=⟨_,rfl⟩
       rw[hwj2]at wn hwj ⊢
       by_cases hP:((j==who)||bj || !decide (K=3))=true
       ·rw[if_pos hP]at wn
        have WN:=zH wn
        clear wn hbj hwj2
        by_cases e1:j=who
        ·have d1:((j:Int)==(who:Int))=true:=by rw[beq_iff_eq];omega
         clear hP e1
         go_wp2
         go_round
         case rel=>exact⟨j+1,by omega,by go_num,by rw[WN.out];go_num⟩
         case measure=>simp[intOf];omega
        have d1:((j:Int)==(who:Int))=false:=by rw[beq_eq_false_iff_ne];omega
        cases bj with
        | true =>
          clear hP e1
          go_wp2
          go_round
          case rel=>exact⟨j+1,by omega,by go_num,by rw[WN.out];go_num⟩
          case measure=>simp[intOf];omega
        | false =>
          have e3:K≠3:=fun e=>by simp[e,e1]at hP
          have d3:(K != 3)=true:=by rw[bne_iff_ne];exact e3
          clear hP e1 e3
          go_wp2
          go_round
          case rel=>exact⟨j+1,by omega,by go_num,by rw[WN.out];go_num⟩
          case measure=>simp[intOf];omega
       ·rw[if_neg hP]at wn
        have WN:=zH wn
        have e1:j≠who:=fun e=>hP (by simp[e])
        have e2:bj=false:=by cases bj with
         | false=>rfl
         | true=>exact absurd (by simp) hP
        subst e2
        have e3:K=3:=by
         by_cases e:K=3
         ·exact e
         ·exact absurd (by simp[e]) hP
        have d1:((j:Int)==(who:Int))=false:=by rw[beq_eq_false_iff_ne];omega
        have d3:(K != 3)=false:=by rw[bne_eq_false_iff_eq];exact e3
        clear wn hbj hwj2 hP e1 e3
        go_wp2
        go_round
        case rel=>exact⟨j+1,by omega,by go_num,by rw[WN.out,Nat.add_zero]⟩
        case measure=>simp[intOf];omega
      ·have hltj':decide ((j:Int) < (l0.length:Int))=false:=decide_eq_false (by omega)
       obtain rfl:j=l0.length:=by omega
       rw[WL.out]
       clear hwj
       go_wp2
       go_loopw [10] (fun av wx=>∃m:Nat,m<=sl/\av = .int .i64 ((of0+m:Nat):Int)/\wx.ownsMap Tryz.prog 3 (plainElem (H:=Unit) Tryz.prog 4) (FB+1) m (Dm (zfP l0 l1 rs k m))/\Kp (fun x=>x=FB+1) z2 wx) (fun av _=>of0+sl - (intOf av).toNat)
       case atStart=>exact⟨0,Nat.zero_le _,rfl,by simpa [zfP]using HMP.out,Kp.rfl⟩
       case round =>
        obtain⟨m,hm,rfl,hmp,hkp⟩:=hrel
        have HM:=zH hmp
        have HKP:=zH hkp
        have NI4:=zH (NI.out wr hkp)
        have N3I:=zH (M4.out.tr (NI.out wr hkp))
        have BF:=zH (BFI.out wr hkp)
        have QFI:=zH (QF.out.keep hkp (by omega))
        clear hmp hkp
        by_cases hm2:m < sl
        ·have hml:decide ((m:Int) < (sl:Int))=true:=decide_eq_true (by omega)
         obtain⟨i,⟨ek,ee,ef,el⟩,v,hget,hlt2,hmem,hw1,hw2,hef,hel,hee,hi,hcase⟩:=SEG.out m hm2
         simp only at hef hel hee hcase
         subst hef
         have hel:=hel.symm
         subst hel
         subst hee
         obtain⟨pa,pc,hv,hbs,_⟩:=TL.out _ hmem
         simp only at hv hbs
         subst hv
         obtain⟨ta',tc',hv',hcell⟩:=(OW.out.nb N3I.out).at
         simp only[Value.slice.injEq,true_and]at hv'
         obtain⟨rfl,rfl⟩:=hv'
         obtain⟨tg,rfl,_,htl,hc⟩:=hcell _ hlt2
         rw[hget]at hc
         obtain⟨a,ha⟩:∃a,of0+m=a:=⟨_,rfl⟩
         rw[ha]at hc hlt2 ⊢
         have HA:=zH ha
         have x0:wr.cell? ⟨tg,a*14,none⟩=some (.int .i64 (i:Nat)):=hc 0 _ rfl
         have x1:wr.cell? ⟨tg,a*14+1,none⟩=some (.int .i64 (ek:Nat)):=hc 1 _ rfl
         have x3:wr.cell? ⟨tg,a*14+3,none⟩=some (.int .i64 K):=hc 3 _ rfl
         have x4:wr.cell? ⟨tg,a*14+4,none⟩=some (.int .u32 I):=hc 4 _ rfl
         have x5:wr.cell? ⟨tg,a*14+5,none⟩=some (.bool X):=hc 5 _ rfl
         have x6:wr.cell? ⟨tg,a*14+6,none⟩=some (.bool R):=hc 6 _ rfl
         have x7:wr.cell? ⟨tg,a*14+7,none⟩=some (.bool B):=hc 7 _ rfl
         have x8:wr.cell? ⟨tg,a*14+8,none⟩=some (.bool E):=hc 8 _ rfl
         have x9:wr.cell? ⟨tg,a*14+9,none⟩=some (.bool S):=hc 9 _ rfl
         have x10:wr.cell? ⟨tg,a*14+10,none⟩=some (.int .u8 D):=hc 10 _ rfl
         have x11:wr.cell? ⟨tg,a*14+11,none⟩=some (.int .u8 V):=hc 11 _ rfl
         have x12:wr.cell? ⟨tg,a*14+12,none⟩=some (.int .u32 A):=hc 12 _ rfl
         have x13:wr.cell? ⟨tg,a*14+13,none⟩=some (.slice pa lf.length pc):=hc 13 _ rfl
         obtain⟨t0,t1,t2,t3,t4,t5,t6,t7,t8,t9,t10⟩:=Blk.c11 QFI.out
         have hFl:=QFI.out.lt
         have ho6:a < 1000:=by omega
         have dA:decide ((L.length:Int)<=(a:Int))=false:=decide_eq_false (by omega)
         have dA2:decide (L.length<=a)=false:=decide_eq_false (by omega)
         have dL:(a:Int) < (L.length:Int):=by omega
         have hi6:i<=1000:=by omega
         have HSM:=zH (fun w' (n:Nb wr w')=>(show Calls Tryz.prog 9 #[.agg #[.int .i64 K,.int .u32 I,.bool X,.bool R,.bool B,.bool E,.bool S,.int .u8 D,.int .u8 V,.int .u32 A,.slice pa lf.length pc],.agg #[.int .i64 K,.int .u32 I,.bool X,.bool R,.bool B,.bool E,.bool S,.int .u8 D,.int .u8 V,.int .u32 A,.slice fa lf.length fc]] w' fun e w2=>e = .returned (.bool true)/\Nb w' w2 from by
          have q:=zd5 ⟨K,I,X,R,B,E,S,D,V,A⟩ ⟨K,I,X,R,B,E,S,D,V,A⟩ pa fa pc fc lf lf w' ((hbs.below N3I.out).below n) (BF.out.below n)
          rw[show z7G (⟨K,I,X,R,B,E,S,D,V,A⟩:Hd) ⟨K,I,X,R,B,E,S,D,V,A⟩ lf lf=true by simp[z7G,Hd.eqb]]at q
          exact q))
         have HLK:=zH (fun w' (n:Nb wr w')=>zm9 (zjJ HM.out n) hw2 hi6)
         have hlk:=HLK.out _ Nb.rfl
         have HT:=zH (show Dm (zfP l0 l1 rs k (m+1))=(Dm (zfP l0 l1 rs k m)).put (.int .i64 (i:Int)) (.lit (.bool true)) by rw[hw1,zlQ])
         have hkey:=zk7 i hi6
         have HKey:=zH hkey
         have HS:=zH (fun w' (n:Nb wr w')=>(⟨kept n x0,kept n x1,kept n x3,kept n x4,kept n x5,kept n x6,kept n x7,kept n x8,kept n x9,kept n x10,kept n x11,kept n x12,kept n x13,kept n t0,kept n t1,kept n t2,kept n t3,kept n t4,kept n t5,kept n t6,kept n t7,kept n t8,kept n t9,kept n t10,HLK.out w' n⟩:w'.cell? ⟨tg,a*14,none⟩=some (.int .i64 (i:Nat))/\w'.cell? ⟨tg,a*14+1,none⟩=some (.int .i64 (ek:Nat))/\w'.cell? ⟨tg,a*14+3,none⟩=some (.int .i64 K)/\w'.cell? ⟨tg,a*14+4,none⟩=some (.int .u32 I)/\w'.cell? ⟨tg,a*14+5,none⟩=some (.bool X)/\w'.cell? ⟨tg,a*14+6,none⟩=some (.bool R)/\w'.cell? ⟨tg,a*14+7,none⟩=some (.bool B)/\w'.cell? ⟨tg,a*14+8,none⟩=some (.bool E)/\w'.cell? ⟨tg,a*14+9,none⟩=some (.bool S)/\w'.cell? ⟨tg,a*14+10,none⟩=some (.int .u8 D)/\w'.cell? ⟨tg,a*14+11,none⟩=some (.int .u8 V)/\w'.cell? ⟨tg,a*14+12,none⟩=some (.int .u32 A)/\w'.cell? ⟨tg,a*14+13,none⟩=some (.slice pa lf.length pc)/\w'.cell? ⟨FB,0,none⟩=some (.int .i64 K)/\w'.cell? ⟨FB,1,none⟩=some (.int .u32 I)/\w'.cell? ⟨FB,2,none⟩=some (.bool X)/\w'.cell? ⟨FB,3,none⟩=some (.bool R)/\w'.cell? ⟨FB,4,none⟩=some (.bool B)/\w'.cell? ⟨FB,5,none⟩=some (.bool E)/\w'.cell? ⟨FB,6,none⟩=some (.bool S)/\w'.cell? ⟨FB,7,none⟩=some (.int .u8 D)/\w'.cell? ⟨FB,8,none⟩=some (.int .u8 V)/\w'.cell? ⟨FB,9,none⟩=some (.int .u32 A)/\w'.cell? ⟨FB,10,none⟩=some (.slice fa lf.length fc)/\(Instr.lookup 38 (.map (some (FB+1))) (.int .i64 (i:Int)) false).run Tryz.prog w' = .ok (.bool false) w'))
         have HCS:=zH hcase
         clear hget hmem hw1 hw2 hbs hc hcell hcase hkey
         go_wp2_with (at_len;refine wpList_len_own _ rfl _ 38 rfl 3 4 Tryz.underlying38 _ (FB+1) m _ rfl HM.out ?_;rw[WSZ.out m hm])
         have NB7:RowKit.Hid (Nb wr wr.drew):=zH (Nb.drewN wr 1)
         have HEq:=zH (show ∃q:Bool,((ek:Int)==1)=q/\((i:Int)==(who:Int))=q/\((ek:Int)==4)=false from by
          rcases HCS.out with ⟨e1,e2⟩ | ⟨e1,e2⟩
          ·exact⟨true,by rw[beq_iff_eq];omega,by rw[beq_iff_eq];omega,by rw[beq_eq_false_iff_ne];omega⟩
          ·exact⟨false,by rw[beq_eq_false_iff_ne];omega,by rw[beq_eq_false_iff_ne];omega,by rw[beq_eq_false_iff_ne];omega⟩)
         obtain⟨q,dE1,dI,dE4⟩:=HEq.out
         clear HEq HCS
         have hld:=HLK.out _ NB7.out
         go_region_held3 (fun w'=>w'.cell? ⟨tg,a*14,none⟩=some (.int .i64 (i:Nat))/\w'.cell? ⟨tg,a*14+1,none⟩=some (.int .i64 (ek:Nat))/\w'.cell? ⟨tg,a*14+3,none⟩=some (.int .i64 K)/\w'.cell? ⟨tg,a*14+4,none⟩=some (.int .u32 I)/\w'.cell? ⟨tg,a*14+5,none⟩=some (.bool X)/\w'.cell? ⟨tg,a*14+6,none⟩=some (.bool R)/\w'.cell? ⟨tg,a*14+7,none⟩=some (.bool B)/\w'.cell? ⟨tg,a*14+8,none⟩=some (.bool E)/\w'.cell? ⟨tg,a*14+9,none⟩=some (.bool S)/\w'.cell? ⟨tg,a*14+10,none⟩=some (.int .u8 D)/\w'.cell? ⟨tg,a*14+11,none⟩=some (.int .u8 V)/\w'.cell? ⟨tg,a*14+12,none⟩=some (.int .u32 A)/\w'.cell? ⟨tg,a*14+13,none⟩=some (.slice pa lf.length pc)/\w'.cell? ⟨FB,0,none⟩=some (.int .i64 K)/\w'.cell? ⟨FB,1,none⟩=some (.int .u32 I)/\w'.cell? ⟨FB,2,none⟩=some (.bool X)/\w'.cell? ⟨FB,3,none⟩=some (.bool R)/\w'.cell? ⟨FB,4,none⟩=some (.bool B)/\w'.cell? ⟨FB,5,none⟩=some (.bool E)/\w'.cell? ⟨FB,6,none⟩=some (.bool S)/\w'.cell? ⟨FB,7,none⟩=some (.int .u8 D)/\w'.cell? ⟨FB,8,none⟩=some (.int .u8 V)/\w'.cell? ⟨FB,9,none⟩=some (.int .u32 A)/\w'.cell? ⟨FB,10,none⟩=some (.slice fa lf.length fc)/\(Instr.lookup 38 (.map (some (FB+1))) (.int .i64 (i:Int)) false).run Tryz.prog w' = .ok (.bool false) w') (first | go_keep | exact HS.out _ NB7.out) ((go_at_call 9;refine(HSM.out _ NB7.out).mono ?_;rintro e w2 ⟨rfl,m2⟩;have NB7:=zH (NB7.out.tr m2)))
         rename_i hHeld
         have c3:=hHeld.1
         have NBD:=zH NB7.out
         clear hHeld x0 x1 x3 x4 x5 x6 x7 x8 x9 x10 x11 x12 x13 t0 t1 t2 t3 t4 t5 t6 t7 t8 t9 t10 hlk hld dE1 dI dE4 NB7
         go_wp2_with (at_mapUpdate;refine wpList_mapUpdate_own _ rfl _ _ _ 38 rfl 3 4 zgx Tryz.underlying38 _ (FB+1) m _ rfl (zjJ HM.out NBD.out) (by unfold maxLen;omega) _ _ _ rfl rfl HKey.out _ [] (plainElem_bool Tryz.underlying4 true) ?_)
         intro wu hown1 hgrow1
         have HO1:=zH hown1
         have HK1:=zH ((HKP.out.rn NBD.out).tr (Kp.grown (F:=fun x=>x=FB+1) hgrow1 (fun x hx=>by simp at hx;omega)) (fun _ h => .inl h))
         clear hown1 hgrow1 c3
         go_wp2
         go_roundw
         case rel=>exact⟨m+1,by omega,by rw[show((of0+(m+1):Nat):Int)=(a:Int)+1 by have:=HA.out;omega],by rw[HT.out];exact HO1.out,HK1.out⟩
         case measure =>
          have:=HA.out
          simp[intOf]
          omega
        ·obtain rfl:m=sl:=by omega
         go_wp2_with (at_len;refine wpList_len_own _ rfl _ 38 rfl 3 4 Tryz.underlying38 _ (FB+1) m _ rfl HM.out ?_;rw[WSZ.out m hm])
         go_roundw
         case rel=>exact⟨k+1,by omega,by go_num,by rw[OFN.out,Int.natCast_add],NI4.out⟩
         case measure=>simp[intOf];omega
    have hlt':decide ((k:Int) < (l1.length:Int))=false:=decide_eq_false (by omega)
    obtain rfl:k=l1.length:=by omega
    have hof:zeU l0 l1 rs l1.length=L.length:=by rw[<- z3H,<- MP.out,List.length_map]
    rw[hof]
    have hLL:L.length<=4398046511104:=by
     rw[<- hof]
     have key:∀q,q<=l1.length->zeU l0 l1 rs q<=q*7:=fun q=>by
      induction q with
      | zero=>intro _;exact Nat.le_refl _
      | succ q ih =>
        intro hq
        have h1:=ih (by omega)
        have h2:=zla CO.out (k:=q) (by omega)
        have h3:zfz l0 l1 rs q l0.length<=l0.length:=by unfold zfz;exact Nat.le_trans (List.length_filter_le _ _) (by simp)
        have h4:=CC.out.n6
        rw[zeU]
        omega
     have:=key l1.length (Nat.le_refl _)
     have:=CC.out.le
     have:=CC.out.n6
     omega
    clear hof hlt hk
    go_wp2
    go_loopw [146] (fun ix wr=>∃j:Nat,j<=l0.length/\ix = .int .i64 j/\Nb w4 wr) (fun ix _=>l0.length - (intOf ix).toNat)
    case atStart=>exact⟨0,Nat.zero_le _,rfl,N5.out⟩
    case round =>
     obtain⟨j,hj,rfl,hN⟩:=hrel
     have N6:=zH hN
     clear hN
     by_cases hltj:j < l0.length
     ·have hltj':decide ((j:Int) < (l0.length:Int))=true:=decide_eq_true (by omega)
      have hjn:j < ns.length:=by rw[ID.out.len];exact hltj
      obtain⟨s1,s2,s3,-⟩:=ID.out.st j hjn
      have s4:=ID.out.no j hjn (by
       by_cases e:j < l1.length
       ·exact .inr (CO.out.all j e)
       ·exact .inl (by omega))
      have hss:=(NX.out.keep (M4.out.tr N6.out)).n.state j OK.out (HB.out _ (N4.out.tr N6.out)) hjn
      rw[show ns.getD j dN=ns[j] by simp[List.getD,hjn],idle_st s1 s2 s3 s4]at hss
      have HSS:=zH hss
      clear hss s1 s2 s3 s4 hjn
      go_wp2_with fail
      refine HSS.out.mono ?_
      rintro e w7 ⟨rfl,n7⟩
      have N7:=zH (N6.out.tr n7)
      clear n7 HSS
      go_wp2
      go_roundw
      case rel=>exact⟨j+1,by omega,by go_num,N7.out.al _⟩
      case measure=>simp[intOf];omega
     ·have hltj':decide ((j:Int) < (l0.length:Int))=false:=decide_eq_false (by omega)
      go_wp2
      go_ret
      exact⟨rfl,N4.out.tr N6.out⟩
theorem door_met(os:Os)(args:Array Value):laidMetH Tryz.prog Rows.busCalmRow.laid ((World.doorLaid Tryz.prog 24 os).forCall (fun _ _=>0) ⟨#[],args,[]⟩).memory :=
 laidMetH_of_parts3 (fuel:=8) (laidMet_of_run' 8 (by kernel_rfl) (by kernel_rfl)) (by kernel_rfl) (by kernel_rfl)
theorem lifted (os:Os) (started:os.Started) (H:Type) (enc:TypeId × Value->H) :
    ReturnsInHanded {} Tryz.checked os 3 .any (fun w args=>(Rows.busCalmSpec.pre enc Tryz.prog Tryz.f3 [] false w args/\laidMetH Tryz.prog Rows.busCalmRow.laid w)/\sizedMet enc Tryz.prog Tryz.f3 (OpenSpec.ofChange Rows.busCalmSpec) false w args)
     (Rows.busCalmSpec.post enc Tryz.prog Tryz.f3 false true false false):=by
 refine returnsInHanded_of_change_and (C:=Tryz.checked) (X:=fun w _=>laidMetH Tryz.prog Rows.busCalmRow.laid w) (fun _ _ _ hh h=>h.of_heap hh) own started (by kernel_rfl) Tryz.func3
  (ChangeSpec.witness_shaped (enc:=enc) (C:=Tryz.checked) (os:=os) (X:=fun w _=>laidMetH Tryz.prog Rows.busCalmRow.laid w) false (World.doorLaid Tryz.prog 24 os) #[.slice none 0 0,.slice none 0 0] 8 rfl (World.shaped_of_RefB (by kernel_rfl) (by kernel_rfl)) (by kernel_rfl) (by kernel_rfl) (by kernel_rfl) (door_met os _)) ?_
 intro W base args ds gs before hval0 hW _ hR hL _
 have hval:∀(j:Nat) t v,Tryz.f3.params[j]? = some t->args[j]? = some v->Value.okWide Tryz.prog W .any base t v:=hval0
 have hW':=hW
 obtain⟨p,q,hA0,hV,rfl,hfz,hnd⟩:=hW
 have hA:DataW.TrodAll enc Tryz.prog W 0 (fun _=>true) true Tryz.f3.params.toList args.toList ds p:=hA0
 rw[Tryz.params3]at hA hval
 obtain⟨v0,vs0,d0,ds0,p0,q0,hargs,rfl,rfl,h0,r0⟩:=trodAll_cons hA
 obtain⟨v1,vs1,d1,ds1,p1,q1,rfl,rfl,rfl,h1,r1⟩:=trodAll_cons r0
 obtain⟨rfl,rfl,rfl⟩:=trodAll_nil r1
 obtain rfl:args=#[v0,v1]:=by cases args;simp_all
 obtain⟨rfl,rfl⟩:=trodVars_none hV
 have k0:=h0
 have lt0:∀x∈p0,x.block < W.heap.size:=by obtain⟨m,hm⟩:=k0;exact DataW.trod_lt m _ _ _ hm
 have k1:=h1
 have lt1:∀x∈p1,x.block < W.heap.size:=by obtain⟨m,hm⟩:=k1;exact DataW.trod_lt m _ _ _ hm
 clear hA0
 obtain⟨a0,lc0,cap0,rfl⟩:=okWide_slice Tryz.underlying22 (hval 0 22 v0 rfl rfl)
 obtain⟨fu0,hf0⟩:=h0
 have hc0:DataW.trod enc Tryz.prog W 0 (fun _=>true) true fu0 22 [.slice a0 lc0 cap0]=some (d0,p0):=hf0
 obtain⟨b0,cb0,l0,e0,hb0,n0⟩:=zjI hc0
 simp only[Value.slice.injEq]at e0
 obtain⟨rfl,rfl,rfl⟩:=e0
 obtain⟨a1,lc1,cap1,rfl⟩:=okWide_slice Tryz.underlying23 (hval 1 23 v1 rfl rfl)
 obtain⟨fu1,hf1⟩:=h1
 have hc1:DataW.trod enc Tryz.prog W 0 (fun _=>true) true fu1 23 [.slice a1 lc1 cap1]=some (d1,p1):=hf1
 obtain⟨b1,cb1,l1,e1,hb1,n1⟩:=zjH hc1
 simp only[Value.slice.injEq]at e1
 obtain⟨rfl,rfl,rfl⟩:=e1
 refine(walk W (zls hL) a0 cap0 l0 hb0 n0 a1 cap1 l1 hb1 n1).mono fun e W' ⟨he,bel⟩ => ?_
 subst he
 exact⟨_,rfl,_,_,_,[],_,[],hW',trodAll_mk1 (shut_bool Tryz.underlying4 _),(trodAll_cons_mk (Below.trod laidOut (by kernel_rfl) (of_decide_eq_true (by kernel_rfl)) k0 bel lt0) (trodAll_cons_mk (Below.trod laidOut (by kernel_rfl) (of_decide_eq_true (by kernel_rfl)) k1 bel lt1) trodAll_mk0)),rfl,bel.frame _,fun h=>by cases h⟩
theorem over:Rows.busCalmRow.holds Tryz.pinned (OpenSpec.ofChange Rows.busCalmSpec) :=
 OpenClaim.holds_of_wide 3 Tryz.f3 rfl rfl rfl rfl rfl rfl rfl ⟨rfl,rfl,rfl,rfl,rfl⟩ rfl rfl rfl rfl rfl (by kernel_rfl) Tryz.func3 (by kernel_rfl)
  (of_decide_eq_true (by kernel_rfl)) (by unfold Func.isWrapper;first | (rw[if_pos (by decide +kernel)];kernel_rfl) | (rw[if_neg (by decide +kernel)];exact⟨rfl,rfl⟩))
  (fun os started H enc _=>lifted os started H enc)
theorem plain (f : FuncId) (fn : Func) (hf : Tryz.pinned.checked.prog.funcNamed "omnibus/omnibuslaw13.BusCalm" = some f) (hfn : Tryz.pinned.checked.prog.funcs[f]? = some fn) :
    true=Tryz.pinned.checked.prog.looks []/\∀(j:Nat) t,fn.params[j]? = some t->Tryz.pinned.checked.prog.wantsStandIn t=false:=by
 obtain rfl : f = 3 := Option.some.inj ((show Tryz.prog.funcNamed "omnibus/omnibuslaw13.BusCalm" = some 3 by kernel_rfl).symm.trans hf) |>.symm
 obtain rfl:fn=Tryz.f3:=(Option.some.inj (Tryz.func3.symm.trans hfn)).symm
 refine⟨by kernel_rfl,fun j t ht => ?_⟩
 rw[Tryz.params3]at ht
 have hm:t∈[22,23]:=by have:=Array.mem_of_getElem? ht;simp at this ⊢;omega
 have hall:([22,23].all fun u => !Tryz.prog.wantsStandIn u)=true:=by kernel_rfl
 exact(show Tryz.prog.wantsStandIn t=false by simpa using List.all_eq_true.1 hall t hm)
theorem proved:Rows.BusCalmCardSaid :=
 Claim7.holds_tied_plain_at .later [] _ _ _ _ over (fun _ h=>by cases h) (by kernel_rfl) (fun _ h=>by cases h) busCalm_row_tie rfl ⟨rfl,rfl⟩ (by kernel_rfl) rfl plain (by kernel_rfl)
#print axioms proved
end Go.Proofs.YtplbmlpdefpplaaGreatDoor.busCalm
