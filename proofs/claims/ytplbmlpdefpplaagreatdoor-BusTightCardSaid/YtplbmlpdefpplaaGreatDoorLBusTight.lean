/- For every bools and frames the law BusTight answers true and leaves its arguments as they were; the package's tables are tied to the program's text. No conditions. -/
import Derived.Test.YtplbmlpdefpplaaGreatDoorRows
import Derived.Test.YtplbmlpdefpplaaGreatDoorCards
import Derived.Test.YtplbmlpdefpplaaGreatDoorTie
import Derived.Test.YtplbmlpdefpplaaGreatDoorGca
import Derived.Test.YtplbmlpdefpplaaGreatDoorTgt
set_option maxHeartbeats 8000000
set_option maxRecDepth 100000
namespace Go.Proofs.YtplbmlpdefpplaaGreatDoor.busTight
open Go.ChangeShapes Go.WideShapes Go.ChangeAt Go.RowKit Go.Joins
set_option linter.unusedVariables false
set_option linter.unusedSimpArgs false
theorem own:ownKnob Tryz.prog.godebug=none:=by kernel_rfl
theorem laidOut:laidOutB Tryz.prog=true:=by kernel_rfl
theorem set_ack{f:Hd}{l:List Nat}(h:Fr f l):(wF f l).set (z2P f l) 0=onW f l/\z2P f l < (wF f l).length/\(wF f l).length=(onW f l).length:=by
 obtain⟨h1,h2,_⟩:=z7Z h.ok h.wd h.b
 rw[h1,h2,List.length_append,z31]
 refine⟨?_,by simp[ones],by simp[ones]⟩
 rw[List.set_append_right _ _ (by omega),show(zn f l).length+1 - (zn f l).length=1 by omega]
 rfl
def fillW(k:Nat):List Nat:=ones k++List.replicate (11 - k) 0
theorem fillW_next:∀k,k < 11->(fillW k).set k 1=fillW (k+1):=by decide
theorem fillW_len:∀k,k < 12->(fillW k).length=11:=by decide
theorem lineT_len(fs:List (Hd × List Nat))(o:List Nat)(k:Nat):(zcG fs o k).length=z0Z fs o k:=by
 induction k with
 | zero=>rfl
 | succ k ih =>
   rw[zcG,z0Z,List.length_append,List.length_append,z31,ih,frL]
   simp[ones]
theorem bs_ones3(w:World)(t:TypeId):Bs (w.alloc (.cells #[.int .u8 1,.int .u8 1,.int .u8 1] t)) (some ⟨w.heap.size,0,none⟩) 3 (ones 3) :=
 ⟨Nat.le_refl _,by simp[maxLen],by simp[ones],fun _=>⟨_,_,rfl,fun j hj=>by
  match j,hj with
  | 0,_=>simp[ones]
  | 1,_=>simp[ones]
  | 2,_=>simp[ones]⟩⟩
def lenV:Value->Nat
 | .slice _ n _=>n
 | _=>0
theorem ones_more(m:Nat):ones m++[1]=ones (m+1):=by simp[ones,List.replicate_succ']
theorem walk (w:World) (hK:z0i w) (a0:Option Addr) (cap0:Nat) (l0:List Bool) (h0:Bls w a0 cap0 l0) (n0:a0=none->cap0=0) (a1:Option Addr) (cap1:Nat) (l1:List (Hd × List Nat)) (h1:z28 w a1 cap1 l1) (n1:a1=none->cap1=0) :
    Calls Tryz.prog 4 #[.slice a0 l0.length cap0,.slice a1 l1.length cap1] w fun e w'=>e = .returned (.bool true)/\Nb w w':=by
 have hL0:=h0.len
 have hL1:=h1.len
 have HK:=zH hK
 have HB:=zH (fun w' (m:Nb w w')=>HK.out.below m)
 have HKN:=zH h0
 have HF:=zH h1
 clear hK h0 h1 n0 n1
 go_enter Tryz.func4,Tryz.ntmps4
 go_wp2_with fail
 refine(ziS _ (HB.out _ Nb.rfl)).mono ?_
 rintro e w1 ⟨rfl,n1⟩
 have N1:=zH n1
 clear n1
 go_wp2_with fail
 refine(zld _ _ _ _ _ _ _ (HKN.out.below N1.out) (HF.out.below N1.out) (HB.out _ N1.out).2).mono ?_
 rintro e w2 ⟨r,rfl,hr,n2⟩
 have N2:=zH (N1.out.tr n2)
 clear n2
 cases r with
 | false =>
   clear hr
   go_wp2
   go_ret
   exact⟨rfl,N2.out⟩
 | true =>
   have CC:=zH (hr rfl)
   have WW:=zH HF.out.wd
   have CO:=zH (zjX CC.out WW.out)
   clear hr
   go_wp2_with fail
   refine(zk4 _ _ _ _ _ _ _ (HKN.out.below N2.out) (HF.out.below N2.out) (HB.out _ N2.out) CC.out).mono ?_
   rintro e w3 ⟨vb,ov,L,line,ns,X,rfl,hX,-,-,-,-,hline,-,-⟩
   have NX:=zH hX
   have N3:=zH (N2.out.tr hX.nb)
   clear hX
   have hall:z4E l1=true:=by
    unfold z4E
    rw[List.all_eq_true]
    intro p hp
    obtain⟨j,hj,rfl⟩:=List.getElem_of_mem hp
    have:=(CC.out.each j hj).1
    simpa [List.getD,hj]using this
   have hrk:=zjC a1 cap1 l1 w3 (HF.out.below N3.out) (by have:=CC.out.le;have:=CC.out.n6;omega) (HB.out _ N3.out).2
   rw[show zkR l1=rk (z0E l1) by rw[zkR,if_pos hall];rfl,show zkj l1=0 by rw[zkj,if_pos hall]]at hrk
   have hrl:(rk (z0E l1)).length=l1.length:=CO.out.ol
   have hst:=z9K l1
   have hsl:=zd1 CC.out WW.out l1.length (Nat.le_refl _)
   have HRL:=zH hrl
   have HRK:=zH hrk
   unfold zmh at HRK
   generalize rk (z0E l1)=rs at *
   have hn6:l1.length<=6:=by have:=CC.out.le;have:=CC.out.n6;omega
   have HLT:=zH (fun k (hk:k<=l1.length)=>(show(zcG l1 rs k).length<=5000 from by
    rw[lineT_len]
    by_cases hkn:k < l1.length
    ·have:=zc4 l1 rs hkn
     omega
    ·obtain rfl:k=l1.length:=by omega
     omega))
   clear hrk hall hrl
   obtain⟨LN,hLN⟩:∃LN,line.length=LN:=⟨_,rfl⟩
   have HLN:=zH (show LN=(zcG l1 rs l1.length).length+29 by rw[<- hLN,hline,List.length_append];simp[ones])
   have HLE:=zH hline
   have hLN3:LN<=100000:=by
    have:=HLT.out l1.length (Nat.le_refl _)
    have:=HLN.out
    omega
   have HLI:=zH (fun wI (m:Nb w3 wI)=>(show Calls Tryz.prog 11 #[vb] wI fun e w2=>∃a c,e = .returned (.slice a LN c)/\Bs w2 a c line/\Nb wI w2 from by
    have q:=(NX.out.keep m).n.line (by rw[hLN,HLN.out];omega)
    rw[hLN]at q
    exact q))
   have HLL:=zH hLN
   clear hline hst hsl hLN
   go_wp2_with fail
   refine HRK.out.mono ?_
   rintro e w4 ⟨⟨v2,rfl,o2,f2⟩,n4⟩
   have O2:=zH o2
   have M4:=zH n4
   obtain⟨va,vc,hve,hva,-,-⟩:=o2.shape
   rw[HRL.out]at hve
   subst hve
   have N4:=zH (N3.out.tr n4)
   clear n4 o2 f2 HRK
   go_wp2_with fail
   refine(HLI.out _ M4.out).mono ?_
   rintro e w5 ⟨la,lc,rfl,bl,n5⟩
   have BL:=zH bl
   have M5:=zH n5
   have N5:=zH (N4.out.tr n5)
   clear bl n5
   have hmk:(Instr.makeSlice 35 (.int .i64 11) (.int .i64 11)).run Tryz.prog w5 = .ok (.slice (some ⟨w5.heap.size,0,none⟩) 11 11) (w5.alloc (.cells (madeCells #[.int .u8 0] 11) 5)):=z1Z w5 11 (by omega)
   have O5:=zH (show z04 (w5.alloc (.cells (madeCells #[.int .u8 0] 11) 5)) (.slice (some ⟨w5.heap.size,0,none⟩) 11 11) (fillW 0)from z04.full w5 11 (by omega))
   go_wp2
   clear hmk
   go_loopw [46] (fun ix wr=>∃k:Nat,k<=11/\ix = .int .i64 k/\z04 wr (.slice (some ⟨w5.heap.size,0,none⟩) 11 11) (fillW k)/\Nb w5 wr) (fun ix _=>11 - (intOf ix).toNat)
   case atStart=>exact⟨0,Nat.zero_le _,rfl,O5.out,Nb.rfl.al _⟩
   case round =>
    obtain⟨k,hk,rfl,ho,hn⟩:=hrel
    have OW:=zH ho
    have NW:=zH hn
    by_cases hlt:k < 11
    ·have hlt':decide ((k:Int) < 11)=true:=decide_eq_true (by omega)
     have hfl:=fillW_len k (by omega)
     have cg:=ho.cell k (by rw[hfl];exact hlt)
     have fg:wr.frozen? ⟨w5.heap.size,k,none⟩=false:=ho.frozen rfl k
     have OS:=zH (show z04 (wr.setCell ⟨w5.heap.size,k,none⟩ (.int .u8 1)) (.slice (some ⟨w5.heap.size,0,none⟩) 11 11) (fillW (k+1)) by rw[<- fillW_next k hlt];exact ho.setByte (g:=w5.heap.size) rfl k (by rw[hfl];exact hlt) 1 (by omega))
     clear ho hn hfl O5
     go_wp2
     go_roundw
     case rel=>exact⟨k+1,by omega,by go_num,OS.out,Nb.st NW.out (Nat.le_refl _) _⟩
     case measure=>simp[intOf];omega
    have hlt':decide ((k:Int) < 11)=false:=decide_eq_false (by omega)
    obtain rfl:k=11:=by omega
    clear ho hn O5
    go_wp2
    go_loopw [11,55] (fun wv ix wr=>∃k:Nat,k<=l1.length/\ix = .int .i64 k/\zf w5 wr wv (zcG l1 rs k)/\Nb w5 wr) (fun _ ix _=>l1.length - (intOf ix).toNat)
    case atStart=>exact⟨0,Nat.zero_le _,rfl,⟨OW.out,fun g hg=>by simp only[Value.ownBlock,Option.some.injEq]at hg;omega⟩,NW.out⟩
    case round =>
     obtain⟨k,hk,rfl,hfr,hn⟩:=hrel
     have htl:=HLT.out k hk
     obtain⟨T,hTe⟩:∃T,T=zcG l1 rs k:=⟨_,rfl⟩
     rw[<- hTe]at hfr htl
     have ht11:11<=T.length:=by
      rw[hTe,lineT_len]
      clear hfr htl hTe
      induction k with
      | zero=>exact Nat.le_refl _
      | succ k ih =>
        have:=ih (by omega)
        rw[z0Z]
        omega
     obtain⟨gv,cv,hve⟩:=hfr.1.shape (by omega)
     subst hve
     have FR:=zH hfr
     have HTE:=zH hTe
     clear hTe
     have NR:=zH hn
     clear hfr hn OW NW
     by_cases hlt:k < l1.length
     ·have hlt':decide ((k:Int) < (l1.length:Int))=true:=decide_eq_true (by omega)
      have hwho:=CO.out.olt k hlt
      obtain⟨who,hw⟩:∃who,rs.getD k 0=who:=⟨_,rfl⟩
      rw[hw]at hwho
      obtain⟨g,rfl⟩:=hva (by rw[HRL.out];omega)
      have cR:=(O2.out.nb (M5.out.tr NR.out)).cell k (by rw[HRL.out];exact hlt)
      rw[hw]at cR
      have hNw:=N5.out.tr NR.out
      obtain⟨bF,oF,rfl,_⟩:=HF.out.hcells (by omega)
      obtain⟨⟨⟨K,I,X,R,B,E,S,D,V,A⟩,lf⟩,hf⟩:∃x,l1.getD who dF=x:=⟨_,rfl⟩
      obtain⟨fa,fc,⟨t0,t1,t2,t3,t4,t5,t6,t7,t8,t9,t10⟩,hWf,_,hBf,hNf⟩:=(HF.out.below hNw).at hwho hf
      have hfk:frK l1 rs k=(⟨K,I,X,R,B,E,S,D,V,A⟩,lf):=by unfold frK fsD;rw[hw];exact hf
      have hFr:Fr (⟨K,I,X,R,B,E,S,D,V,A⟩:Hd) lf:=by
       have q:=CO.out.fr who hwho
       rw[show fsD l1 who=(⟨K,I,X,R,B,E,S,D,V,A⟩,lf)from hf]at q
       exact q
      obtain⟨sa1,sa2,sa3⟩:=set_ack hFr
      have hl3:=HLT.out (k+1) (by omega)
      have NX3:=zH (show zcG l1 rs (k+1)=zcG l1 rs k++(onW (⟨K,I,X,R,B,E,S,D,V,A⟩:Hd) lf++ones 3) by rw[zcG,hfk])
      rw[NX3.out,List.length_append,List.length_append,<- HTE.out]at hl3
      rw[<- HTE.out]at NX3
      have hwi:=z8h ⟨K,I,X,R,B,E,S,D,V,A⟩ fa fc lf wr hBf hWf hNf
      rw[<- sa1]at NX3
      rw[<- sa3]at hl3
      generalize wF (⟨K,I,X,R,B,E,S,D,V,A⟩:Hd) lf=Z at hwi sa1 sa2 sa3 NX3 hl3
      generalize z2J (⟨K,I,X,R,B,E,S,D,V,A⟩:Hd) lf=qb at hwi
      generalize z2P (⟨K,I,X,R,B,E,S,D,V,A⟩:Hd) lf=qc at hwi sa1 sa2 NX3
      generalize erF (⟨K,I,X,R,B,E,S,D,V,A⟩:Hd) lf=qd at hwi
      simp only[Hd.cs]at hwi
      have HWI:=zH hwi
      have hZ:Z.length<=100000:=by omega
      clear hf hfk hWf hBf hNf hFr sa1 sa3 hl3 hwi hw
      go_wp2_with fail
      refine HWI.out.mono ?_
      rintro e w6 ⟨⟨a6,c6,rfl,f6⟩,n6⟩
      obtain⟨g6,c6',hsh⟩:=f6.1.shape (by omega)
      simp only[Value.slice.injEq,true_and]at hsh
      obtain⟨rfl,rfl⟩:=hsh
      have cz:=f6.1.cell qc sa2
      have fz:w6.frozen? ⟨g6,qc,none⟩=false:=f6.1.frozen rfl qc
      have hg6:wr.heap.size<=g6:=f6.2 g6 rfl
      have hg6l:g6 < w6.heap.size:=f6.1.lt rfl
      have OZ:=zH (f6.1.setByte (g:=g6) rfl qc sa2 0 (by omega))
      have N6:=zH n6
      have hvg:gv < wr.heap.size:=FR.out.1.lt rfl
      have k7:Kp (fun x=>x=g6) w6 (w6.setCell ⟨g6,qc,none⟩ (.int .u8 0)):=Kp.s1 qc _
      have OV:=zH (fun o=>(show z04 ((w6.setCell ⟨g6,qc,none⟩ (.int .u8 0)).alloc o) (.slice (some ⟨gv,0,none⟩) T.length cv) T from((FR.out.keep N6.out).1.keep k7 (fun x hx=>by simp only[Value.ownBlock,Option.some.injEq]at hx;omega)).keep (F:=fun _=>False) (Kp.ofNb (Nb.rfl.al _)) (by simp)))
      have OZB:=zH (fun o=>(show Bs ((w6.setCell ⟨g6,qc,none⟩ (.int .u8 0)).alloc o) (some ⟨g6,0,none⟩) c6 (Z.set qc 0)from by
       have q:=OZ.out
       rw[show Z.length=(Z.set qc 0).length by simp]at q
       exact q.asBs.1.below (Nb.rfl.al _)))
      have NW7:=zH (fun o=>(show Nb w5 ((w6.setCell ⟨g6,qc,none⟩ (.int .u8 0)).alloc o)from Nb.al ((NR.out.tr N6.out).trans (k7.toBelow (Nat.le_trans NR.out.size N6.out.size) (fun x hx=>by have:=NR.out.size;omega))) _))
      have sz7:∀o,((w6.setCell ⟨g6,qc,none⟩ (.int .u8 0)).alloc o).heap.size=w6.heap.size+1:=fun o=>by rw[World.size_alloc];simp[World.setCell]
      have SZ7:=zH sz7
      have hw56:w5.heap.size<=w6.heap.size:=Nat.le_trans NR.out.size N6.out.size
      have hvn:w5.heap.size<=gv:=FR.out.2 gv rfl
      clear f6 n6 HWI cR t0 t1 t2 t3 t4 t5 t6 t7 t8 t9 t10 k7 sz7
      go_wp2_with (at_builtin;refine zd _ rfl (.tmp 72) (.tmp 74) rfl _ T rfl (OV.out _) (some ⟨g6,0,none⟩) c6 (Z.set qc 0) Z.length (by simp) rfl (OZB.out _) (fun q=>by cases q) (by simp;omega) ?_)
      intro v8 w8 ho8 hk8 hf8
      obtain⟨T8,hT8⟩:∃x,x=T++Z.set qc 0:=⟨_,rfl⟩
      have hl8:T8.length=T.length+Z.length:=by rw[hT8];simp
      rw[<- hT8]at ho8
      obtain⟨g8,c8,hv8⟩:=ho8.shape (by omega)
      subst hv8
      have H8:=zH hT8
      have NW8:=zH ((NW7.out _).trans (hk8.toBelow (NW7.out _).size (fun x hx=>by simp only[Value.ownBlock,Option.some.injEq]at hx;omega)))
      have hg8:w5.heap.size<=g8:=by
       rcases hf8 g8 rfl with q | q
       ·simp only[Value.ownBlock,Option.some.injEq]at q;omega
       ·(try rw[SZ7.out]at q)
        omega
      have hl82:T8.length<=200000:=by omega
      have O8:=zH (ho8.keep (F:=fun _=>False) (Kp.ofNb (Nb.rfl.al (.cells #[.int .u8 1,.int .u8 1,.int .u8 1] 5))) (by simp))
      have B3:=zH (bs_ones3 w8 5)
      have HL8:=zH hl8
      clear ho8 hk8 hf8 hT8 OV OZB NW7 OZ hl8 cz fz
      go_wp2_with (at_builtin;refine zd _ rfl (.tmp 75) (.tmp 76) rfl _ T8 rfl O8.out (some ⟨w8.heap.size,0,none⟩) 3 (ones 3) 3 rfl rfl B3.out (fun q=>by cases q) (by simp[ones];omega) ?_)
      intro v9 w9 ho9 hk9 hf9
      have F9:=zH (show zf w5 w9 v9 (zcG l1 rs (k+1)) from⟨by rw[NX3.out,<- List.append_assoc,<- H8.out];exact ho9,fun x hx=>by
       rcases hf9 x hx with q | q
       ·simp only[Value.ownBlock,Option.some.injEq]at q;omega
       ·have:=NW8.out.size
        (try rw[World.size_alloc]at q)
        omega⟩)
      have N9:=zH ((Nb.al NW8.out _).trans (hk9.toBelow (Nb.al NW8.out (.cells #[.int .u8 1,.int .u8 1,.int .u8 1] 5)).size (fun x hx=>by simp only[Value.ownBlock,Option.some.injEq]at hx;omega)))
      clear ho9 hk9 hf9 NW8 O8 B3
      go_wp2
      go_roundw
      case rel =>
       refine⟨_,_,_,_,_,_,_,_,_,_,_,_,_,_,_,_,_,_,_,_,_,_,_,_,_,_,_,_,?_,rfl⟩
       exact⟨k+1,by omega,by go_num,F9.out,N9.out⟩
      case measure=>simp[intOf];omega
     have hlt':decide ((k:Int) < (l1.length:Int))=false:=decide_eq_false (by omega)
     obtain rfl:k=l1.length:=by omega
     go_wp2
     go_loopw [11] (fun wv wr=>∃m:Nat,m<=29/\zf w5 wr wv (zcG l1 rs l1.length++ones m)/\Nb w5 wr) (fun wv _=>LN - lenV wv)
     case atStart=>exact⟨0,Nat.zero_le _,by rw[show ones 0=[]from rfl,List.append_nil,<- HTE.out];exact FR.out,NR.out⟩
     case round =>
      obtain⟨m,hm,hq,hn⟩:=hrel
      have hqe:(zcG l1 rs l1.length++ones m).length=T.length+m:=by rw[<- HTE.out,List.length_append];simp[ones]
      have hln:LN=T.length+29:=by have:=HLN.out;rwa[<- HTE.out]at this
      obtain⟨Q,hQ⟩:∃Q,Q=zcG l1 rs l1.length++ones m:=⟨_,rfl⟩
      rw[<- hQ]at hq hqe
      obtain⟨gq,cq,hve⟩:=hq.1.shape (by omega)
      subst hve
      have FQ:=zH hq
      have NQ:=zH hn
      have HQ:=zH hQ
      have HQE:=zH hqe
      have HLN2:=zH hln
      by_cases hlt2:m < 29
      ·have dm:decide ((Q.length:Int) < (LN:Int))=true:=decide_eq_true (by omega)
       have dm2:decide (Q.length < LN)=true:=decide_eq_true (by omega)
       have hq6:Q.length<=100000:=by omega
       have OQ:=zH (hq.1.keep (F:=fun _=>False) (Kp.ofNb (Nb.rfl.al (.cells #[.int .u8 1] 5))) (by simp))
       have B1:=zH (Bs.one wr 1 (by omega) 5)
       have hgq:w5.heap.size<=gq:=hq.2 gq rfl
       clear hq hn hQ hqe hln FR NR
       go_wp2_with (at_builtin;refine zd _ rfl (.tmp 84) (.tmp 85) rfl _ Q rfl OQ.out (some ⟨wr.heap.size,0,none⟩) 1 [1] 1 rfl rfl B1.out (fun q=>by cases q) (by simp;omega) ?_)
       intro v9 w9 ho9 hk9 hf9
       have F9:=zH (show zf w5 w9 v9 (zcG l1 rs l1.length++ones (m+1)) from⟨by rw[<- ones_more,<- List.append_assoc,<- HQ.out];exact ho9,fun x hx=>by
        rcases hf9 x hx with q | q
        ·simp only[Value.ownBlock,Option.some.injEq]at q;omega
        ·have:=NQ.out.size
         (try rw[World.size_alloc]at q)
         omega⟩)
       have N9:=zH ((Nb.al NQ.out _).trans (hk9.toBelow (Nb.al NQ.out (.cells #[.int .u8 1] 5)).size (fun x hx=>by simp only[Value.ownBlock,Option.some.injEq]at hx;omega)))
       obtain⟨a9,c9,hv9,_,_⟩:=ho9.bs
       subst hv9
       clear ho9 hk9 hf9 OQ B1
       go_wp2
       go_roundw
       case rel=>exact⟨_,_,_,_,_,_,_,_,_,⟨m+1,by omega,F9.out,N9.out⟩,rfl⟩
       case measure =>
        have:=HQE.out
        have:=HLN2.out
        simp[lenV]
        omega
      ·obtain rfl:m=29:=by omega
       have dm:decide ((Q.length:Int) < (LN:Int))=false:=decide_eq_false (by omega)
       have dm2:decide (Q.length < LN)=false:=decide_eq_false (by omega)
       have hqb:=hq.1.asBs.1
       have hcut:=zbc (some ⟨gq,0,none⟩) Q.length cq LN (by have:=hqb.hcap;omega)
       have HSA:=zH (show Calls Tryz.prog 13 #[.slice la LN lc,.slice (some ⟨gq,0,none⟩) LN cq] wr fun e w'=>e = .returned (.bool true)/\Nb wr w' from by
        have q:=zl7 la (some ⟨gq,0,none⟩) lc cq line Q wr (BL.out.below NQ.out) hqb
        rw[HLL.out,show Q.length=LN by omega,decide_eq_true (show line=Q by rw[HLE.out,HQ.out])]at q
        exact q)
       clear hq hn hQ hqe hln hqb FR NR
       go_wp2_with fail
       refine HSA.out.mono ?_
       rintro e w10 ⟨rfl,n10⟩
       have N10:=zH (N5.out.tr (NQ.out.tr n10))
       clear n10 HSA
       go_wp2
       go_ret
       exact⟨rfl,N10.out⟩
theorem door_met(os:Os)(args:Array Value):laidMetH Tryz.prog Rows.busTightRow.laid ((World.doorLaid Tryz.prog 24 os).forCall (fun _ _=>0) ⟨#[],args,[]⟩).memory :=
 laidMetH_of_parts3 (fuel:=8) (laidMet_of_run' 8 (by kernel_rfl) (by kernel_rfl)) (by kernel_rfl) (by kernel_rfl)
theorem lifted (os:Os) (started:os.Started) (H:Type) (enc:TypeId × Value->H) :
    ReturnsInHanded {} Tryz.checked os 4 .any (fun w args=>(Rows.busTightSpec.pre enc Tryz.prog Tryz.f4 [] false w args/\laidMetH Tryz.prog Rows.busTightRow.laid w)/\sizedMet enc Tryz.prog Tryz.f4 (OpenSpec.ofChange Rows.busTightSpec) false w args)
     (Rows.busTightSpec.post enc Tryz.prog Tryz.f4 false true false false):=by
 refine returnsInHanded_of_change_and (C:=Tryz.checked) (X:=fun w _=>laidMetH Tryz.prog Rows.busTightRow.laid w) (fun _ _ _ hh h=>h.of_heap hh) own started (by kernel_rfl) Tryz.func4
  (ChangeSpec.witness_shaped (enc:=enc) (C:=Tryz.checked) (os:=os) (X:=fun w _=>laidMetH Tryz.prog Rows.busTightRow.laid w) false (World.doorLaid Tryz.prog 24 os) #[.slice none 0 0,.slice none 0 0] 8 rfl (World.shaped_of_RefB (by kernel_rfl) (by kernel_rfl)) (by kernel_rfl) (by kernel_rfl) (by kernel_rfl) (door_met os _)) ?_
 intro W base args ds gs before hval0 hW _ hR hL _
 have hval:∀(j:Nat) t v,Tryz.f4.params[j]? = some t->args[j]? = some v->Value.okWide Tryz.prog W .any base t v:=hval0
 have hW':=hW
 obtain⟨p,q,hA0,hV,rfl,hfz,hnd⟩:=hW
 have hA:DataW.TrodAll enc Tryz.prog W 0 (fun _=>true) true Tryz.f4.params.toList args.toList ds p:=hA0
 rw[Tryz.params4]at hA hval
 obtain⟨v0,vs0,d0,ds0,p0,q0,hargs,rfl,rfl,h0,r0⟩:=trodAll_cons hA
 obtain⟨v1,vs1,d1,ds1,p1,q1,rfl,rfl,rfl,h1,r1⟩:=trodAll_cons r0
 obtain⟨rfl,rfl,rfl⟩:=trodAll_nil r1
 obtain rfl:args=#[v0,v1]:=by cases args;simp_all
 obtain⟨rfl,rfl⟩:=trodVars_none hV
 have k0:=h0
 have lt0:∀x∈p0,x.block < W.heap.size:=by obtain⟨m,hm⟩:=k0;exact DataW.trod_lt m _ _ _ hm
 have k1:=h1
 have lt1:∀x∈p1,x.block < W.heap.size:=by obtain⟨m,hm⟩:=k1;exact DataW.trod_lt m _ _ _ hm
 clear hA0
 obtain⟨a0,lc0,cap0,rfl⟩:=okWide_slice Tryz.underlying22 (hval 0 22 v0 rfl rfl)
 obtain⟨fu0,hf0⟩:=h0
 have hc0:DataW.trod enc Tryz.prog W 0 (fun _=>true) true fu0 22 [.slice a0 lc0 cap0]=some (d0,p0):=hf0
 obtain⟨b0,cb0,l0,e0,hb0,n0⟩:=zjI hc0
 simp only[Value.slice.injEq]at e0
 obtain⟨rfl,rfl,rfl⟩:=e0
 obtain⟨a1,lc1,cap1,rfl⟩:=okWide_slice Tryz.underlying23 (hval 1 23 v1 rfl rfl)
 obtain⟨fu1,hf1⟩:=h1
 have hc1:DataW.trod enc Tryz.prog W 0 (fun _=>true) true fu1 23 [.slice a1 lc1 cap1]=some (d1,p1):=hf1
 obtain⟨b1,cb1,l1,e1,hb1,n1⟩:=zjH hc1
 simp only[Value.slice.injEq]at e1
 obtain⟨rfl,rfl,rfl⟩:=e1
 refine(walk W (zls hL) a0 cap0 l0 hb0 n0 a1 cap1 l1 hb1 n1).mono fun e W' ⟨he,bel⟩ => ?_
 subst he
 exact⟨_,rfl,_,_,_,[],_,[],hW',trodAll_mk1 (shut_bool Tryz.underlying4 _),(trodAll_cons_mk (Below.trod laidOut (by kernel_rfl) (of_decide_eq_true (by kernel_rfl)) k0 bel lt0) (trodAll_cons_mk (Below.trod laidOut (by kernel_rfl) (of_decide_eq_true (by kernel_rfl)) k1 bel lt1) trodAll_mk0)),rfl,bel.frame _,fun h=>by cases h⟩
theorem over:Rows.busTightRow.holds Tryz.pinned (OpenSpec.ofChange Rows.busTightSpec) :=
 OpenClaim.holds_of_wide 4 Tryz.f4 rfl rfl rfl rfl rfl rfl rfl ⟨rfl,rfl,rfl,rfl,rfl⟩ rfl rfl rfl rfl rfl (by kernel_rfl) Tryz.func4 (by kernel_rfl)
  (of_decide_eq_true (by kernel_rfl)) (by unfold Func.isWrapper;first | (rw[if_pos (by decide +kernel)];kernel_rfl) | (rw[if_neg (by decide +kernel)];exact⟨rfl,rfl⟩))
  (fun os started H enc _=>lifted os started H enc)
theorem plain (f : FuncId) (fn : Func) (hf : Tryz.pinned.checked.prog.funcNamed "omnibus/omnibuslaw13.BusTight" = some f) (hfn : Tryz.pinned.checked.prog.funcs[f]? = some fn) :
    true=Tryz.pinned.checked.prog.looks []/\∀(j:Nat) t,fn.params[j]? = some t->Tryz.pinned.checked.prog.wantsStandIn t=false:=by
 obtain rfl : f = 4 := Option.some.inj ((show Tryz.prog.funcNamed "omnibus/omnibuslaw13.BusTight" = some 4 by kernel_rfl).symm.trans hf) |>.symm
 obtain rfl:fn=Tryz.f4:=(Option.some.inj (Tryz.func4.symm.trans hfn)).symm
 refine⟨by kernel_rfl,fun j t ht => ?_⟩
 rw[Tryz.params4]at ht
 have hm:t∈[22,23]:=by have:=Array.mem_of_getElem? ht;simp at this ⊢;omega
 have hall:([22,23].all fun u => !Tryz.prog.wantsStandIn u)=true:=by kernel_rfl
 exact(show Tryz.prog.wantsStandIn t=false by simpa using List.all_eq_true.1 hall t hm)
theorem proved:Rows.BusTightCardSaid :=
 Claim7.holds_tied_plain_at .later [] _ _ _ _ over (fun _ h=>by cases h) (by kernel_rfl) (fun _ h=>by cases h) busTight_row_tie rfl ⟨rfl,rfl⟩ (by kernel_rfl) rfl plain (by kernel_rfl)
#print axioms proved
end Go.Proofs.YtplbmlpdefpplaaGreatDoor.busTight
