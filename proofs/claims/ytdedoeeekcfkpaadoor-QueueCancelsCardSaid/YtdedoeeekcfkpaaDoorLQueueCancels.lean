/- For all frames and every number the law QueueCancels answers true and leaves its arguments as they were; the package's table of longer sizes is tied to the program's text. No conditions. -/
import Derived.Test.YtdedoeeekcfkpaaDoorRows
import Derived.Test.YtdedoeeekcfkpaaDoorCards
import Derived.Test.YtdedoeeekcfkpaaDoorTie
import Derived.Test.YtdedoeeekcfkpaaDoorGqc
import Derived.Test.YtdedoeeekcfkpaaDoorQuS
import Derived.Test.YtdedoeeekcfkpaaDoorGj
import Derived.Test.YtdedoeeekcfkpaaDoorGor
import Derived.Test.YtdedoeeekcfkpaaDoorGe
import Derived.Test.YtdedoeeekcfkpaaDoorGa
import Derived.WalkKit
import Derived.ProofKit
import Derived.OpenShut
import Derived.ShutString
import Derived.ChangeOld
import Derived.Below
import Derived.Carry
import Derived.Lib.SmallJoins
import Derived.Deep.RegionWith
import Derived.Deep.RegionHeld3
import Derived.LaidMore
import Derived.LaidLaws
import Derived.Stop.Joined
import Derived.SevenTiedAt
set_option maxHeartbeats 8000000
set_option maxRecDepth 100000
namespace Go.Proofs.YtdedoeeekcfkpaaDoor.queueCancels
open Go.ChangeShapes Go.WideShapes Go.ChangeAt Go.RowKit Go.Joins
set_option linter.unusedVariables false
set_option linter.unusedSimpArgs false
theorem own:ownKnob Tryd.prog.godebug=none:=by kernel_rfl
theorem laidOut:laidOutB Tryd.prog=true:=by kernel_rfl
theorem its_take {L:List It} {j:Nat} (h:j < L.length):L.take (j+1)=L.take j++[L.getD j dI]:=by
 rw[List.take_add_one]
 simp[List.getD,h]
theorem del_take (n:Int) {L:List It} {j:Nat} (h:j < L.length):delI n (L.take (j+1))=delI n (L.take j)++if (((L.getD j dI).no:Nat):Int)==n then [] else [L.getD j dI]:=by
 rw[its_take h]
 unfold delI
 rw[List.filter_append]
 congr 1
 generalize L.getD j dI=x
 by_cases hx:((x.no:Nat):Int)=n
 ·rw[if_pos (by rw[beq_iff_eq];exact hx)]
  simp[hx]
 ·rw[if_neg (by rw[beq_iff_eq];exact hx)]
  simp[hx]
theorem walk (w:World) (hK:Longer w) (a0:Option Addr) (cap0:Nat) (l0:List (Hd × List Nat)) (h0:FrsAt w a0 cap0 l0) (n0:a0=none->cap0=0) (a1:Int) (w1:(Lit.int .u8 a1).wf=true) :
    Calls Tryd.prog 5 #[.slice a0 l0.length cap0,.int .u8 a1] w fun e w'=>e = .returned (.bool true)/\Nb w w':=by
 have HK:=Lib.hid hK
 have HFR:=Lib.hid h0
 have AL:=Lib.hid (fun w' (n:Nb w w')=>alive14_any w' (hK.below n))
 have hL0:=h0.len
 have hno:0<=a1/\a1 < 256:=by
  simp[Lit.wf,IntKind.min,IntKind.max,IntKind.signed,IntKind.bits] at w1
  omega
 obtain⟨no,rfl⟩:=Int.eq_ofNat_of_zero_le hno.1
 have hn256:no < 256:=by omega
 clear hK h0 n0 w1 hno
 by_cases hbig:100 < l0.length
 ·have d0:decide ((100:Int) < (l0.length:Int))=true:=decide_eq_true (by omega)
  clear hbig
  go_enter Tryd.func5,Tryd.ntmps5
  go_wp2_with fail
  refine (AL.out _ Nb.rfl).mono ?_
  rintro e w1 ⟨rfl,n1⟩
  have K1:=Lib.hid n1
  clear n1
  go_wp2
  go_ret
  exact⟨rfl,K1.out⟩
 have d0:decide ((100:Int) < (l0.length:Int))=false:=decide_eq_false (by omega)
 have hpl:=puts_last q64 l0
 have hfu:=(Qu.Full.new 64).puts l0
 have hle:(q64.puts l0).last<=100:=by
  have:q64.last=0:=rfl
  omega
 obtain⟨q,hq⟩:∃ q,q64.puts l0=q:=⟨_,rfl⟩
 have hfu:q.Full:=by rw[<- hq];exact hfu
 rw[hq] at hpl hle
 have hlen:=hfu.len
 obtain⟨kk,hkk⟩:∃ kk,no%(q.last+2)=kk:=⟨_,rfl⟩
 have hk1:((no:Int)).tmod ((q.last:Int)+2)=(kk:Int):=by rw[<- hkk];push_cast;exact Int.tmod_eq_emod_of_nonneg (by omega)
 have hk2:(no:Int)%((q.last:Int)+2)=(kk:Int):=by rw[<- hkk];push_cast;rfl
 have hk3:kk < q.last+2:=by rw[<- hkk];exact Nat.mod_lt _ (by omega)
 have dz:((q.last:Int)+2==0)=false:=by rw[beq_eq_false_iff_ne];omega
 have hhas:=has_iff hfu kk
 have HFL:=Lib.hid (fun w' (n:Nb w w')=>fill14_any a0 cap0 l0 w' (HFR.out.below n) (by omega) (HK.out.below n))
 simp only[hq] at HFL
 clear hbig hq hfu hkk hpl
 go_enter Tryd.func5,Tryd.ntmps5
 go_wp2_with fail
 refine (AL.out _ Nb.rfl).mono ?_
 rintro e w1 ⟨rfl,n1⟩
 have K1:=Lib.hid n1
 clear n1
 go_wp2_with fail
 refine (HFL.out _ K1.out).mono ?_
 rintro e w2 ⟨vq,rfl,hN⟩
 have N2:=Lib.hid hN
 have K2:=Lib.hid (K1.out.tr hN.nb)
 clear hN HFL
 go_wp2_with fail
 refine (N2.out.all (HK.out.below K2.out)).mono ?_
 rintro e w3 ⟨aA,cA,P3,rfl,hit,hP3,n3,hN3⟩
 have IT3:=Lib.hid hit
 have N3:=Lib.hid hN3
 have PB3:=Lib.hid hP3
 have K3:=Lib.hid (K2.out.tr n3)
 have hc:=fun (b:Bool) (h:hasI ((kk:Nat):Int) q.its=b)=>show q.cancelE ((kk:Nat):Int)=if b then 0 else 9 by unfold Qu.cancelE;rw[h]
 clear hit hP3 n3 hN3 N2
 have hcn:=N3.out.cancel ((kk:Nat):Int) (HK.out.below K3.out)
 have HCE:=Lib.hid hhas
 have HC:=Lib.hid hc
 have HCN:=Lib.hid hcn
 clear hcn hhas hc
 by_cases hk0:kk=0\/kk=q.last+1
 ·have hce:q.cancelE ((kk:Nat):Int)=9:=by
   have:=HC.out false (by
    cases h:hasI ((kk:Nat):Int) q.its with
    | false=>rfl
    | true =>
      have:=HCE.out.1 h
      omega)
   exact this
  rw[hce] at HCN
  clear hce HC
  rcases hk0 with h | h
  ·have d1:decide ((1:Int)<=(kk:Int))=false:=decide_eq_false (by omega)
   have d1':decide (1<=kk)=false:=decide_eq_false (by omega)
   clear h
   go_wp2_with fail
   refine HCN.out.mono ?_
   rintro e w4 ⟨_,rfl,gk,gX,hn⟩
   have N4:=Lib.hid (hn.less (Y:=noX) (fun k hk=>hk.elim))
   have IT:=Lib.hid (IT3.out.keep gk (fun k hk=>gX k (.inr hk)))
   have PB:=Lib.hid (show ∀ k,P3 k->k < w4.heap.size from fun k hk=>Nat.lt_of_lt_of_le (PB3.out k hk).2 gk.size)
   clear gk gX hn HCN IT3 N3
   go_wp2
   go_loopw [10,53] (fun ov ix wr=>∃ (j:Nat) (L:List (It × Value)),j<=q.its.length/\ix = .int .i64 j/\OwnIQ wr ov L/\RowI wr L P3/\L.map Prod.fst=delI (kk:Nat) (q.its.take j)/\(∀ g,ov.ownBlock=some g->w4.heap.size<=g)/\Nb w4 wr) (fun _ ix _=>q.its.length - (intOf ix).toNat)
   case atStart=>exact⟨0,[],Nat.zero_le _,rfl,OwnIQ.nil _,RowI.nil _ _,rfl,by simp[Value.ownBlock],Nb.rfl⟩
   case round =>
    obtain⟨j,L,hj,rfl,ho,hr,hm,hf,hn⟩:=hrel
    have OW:=Lib.hid ho
    have RW:=Lib.hid hr
    have HM:=Lib.hid hm
    have HF:=Lib.hid hf
    have N:=Lib.hid hn
    clear ho hr hm hf hn
    by_cases hlt:j < q.its.length
    ·have hlt':decide ((j:Int) < (q.its.length:Int))=true:=decide_eq_true (by omega)
     have hLL:L.length<=100:=by
      have h:=congrArg List.length HM.out
      have h2:=List.length_filter_le (fun x:It=>((x.no:Nat):Int) != ((kk:Nat):Int)) (q.its.take j)
      rw[List.length_map] at h
      unfold delI at h
      rw[List.length_take] at h2
      have:min j q.its.length<=100:=by omega
      omega
     have hdt:=del_take ((kk:Nat):Int) hlt
     obtain⟨⟨nx,⟨Kx,Ix,Xx,Rx,Bx,Ex,Sx,Dx,Vx,Ax⟩,lx⟩,hx⟩:∃ x,q.its.getD j dI=x:=⟨_,rfl⟩
     obtain⟨b,of,rfl,_⟩:=IT.out.hcells (by omega)
     obtain⟨pa,pc,hcl⟩:=IT.out.atW hlt hx
     obtain⟨⟨v0,v1,v2,v3,v4,v5,v6,v7,v8,v9,v10,v11⟩,hd⟩:=hcl wr N.out
     rw[hx] at hdt
     simp only at hdt
     have HD:=Lib.hid hd
     clear hcl hx hd
     by_cases hkk:nx=kk
     ·have d1:(((nx:Nat):Int) != ((kk:Nat):Int))=false:=by rw[bne_eq_false_iff_eq];omega
      have TN:=Lib.hid (show delI (kk:Nat) (q.its.take (j+1))=delI (kk:Nat) (q.its.take j) by rw[hdt,if_pos (by rw[beq_iff_eq];omega),List.append_nil])
      clear hdt hkk
      go_wp2
      go_roundw
      case rel=>exact⟨j+1,L,by omega,by go_num,OW.out.nb (Nb.rfl.al _),RW.out.nb (Nb.rfl.al _),by rw[HM.out,TN.out],HF.out,N.out.al _⟩
      case measure=>simp[intOf];omega
     ·have d1:(((nx:Nat):Int) != ((kk:Nat):Int))=true:=by rw[bne_iff_ne];omega
      have TN:=Lib.hid (show delI (kk:Nat) (q.its.take (j+1))=delI (kk:Nat) (q.its.take j)++[⟨nx,⟨Kx,Ix,Xx,Rx,Bx,Ex,Sx,Dx,Vx,Ax⟩,lx⟩] by rw[hdt,if_neg (by rw[beq_iff_eq];omega)])
      have B12:=Lib.hid (Blk.new (wr.alloc (.cells #[.int .i64 nx,.int .i64 Kx,.int .u32 Ix,.bool Xx,.bool Rx,.bool Bx,.bool Ex,.bool Sx,.int .u8 Dx,.int .u8 Vx,.int .u32 Ax,.slice pa lx.length pc] 40)) #[.int .i64 nx,.int .i64 Kx,.int .u32 Ix,.bool Xx,.bool Rx,.bool Bx,.bool Ex,.bool Sx,.int .u8 Dx,.int .u8 Vx,.int .u32 Ax,.slice pa lx.length pc] 40)
      clear hdt hkk
      go_wp2_with (at_builtin;refine wpList_appIQ_1 _ rfl (.tmp 61) (.tmp 63) rfl _ L rfl (OW.out.nb ((Nb.rfl.al _).al _)) _ ⟨nx,⟨Kx,Ix,Xx,Rx,Bx,Ex,Sx,Dx,Vx,Ax⟩,lx⟩ pa lx.length pc rfl ?_ (by omega) ?_)
      ·have h:=B12.out
       rw[World.size_alloc] at h
       exact fun i u hu=>(h.cell i).trans (by rw[List.getElem?_toArray];exact hu)
      intro vo wB ho2 hk2 hf2
      have NA:Nb wr ((wr.alloc (.cells #[.int .i64 nx,.int .i64 Kx,.int .u32 Ix,.bool Xx,.bool Rx,.bool Bx,.bool Ex,.bool Sx,.int .u8 Dx,.int .u8 Vx,.int .u32 Ax,.slice pa lx.length pc] 40)).alloc (.cells #[.int .i64 nx,.int .i64 Kx,.int .u32 Ix,.bool Xx,.bool Rx,.bool Bx,.bool Ex,.bool Sx,.int .u8 Dx,.int .u8 Vx,.int .u32 Ax,.slice pa lx.length pc] 40)):=(Nb.rfl.al _).al _
      have hPg:∀ k,P3 k->¬(fun k=>Value.ownBlock _=some k) k:=fun k hp hq=>by
       have h1:=HF.out k hq
       have h2:=PB.out k hp
       omega
      have R1:=Lib.hid ho2
      have R2:=Lib.hid (((RW.out.nb NA).app (RowI.one (e:=⟨nx,⟨Kx,Ix,Xx,Rx,Bx,Ex,Sx,Dx,Vx,Ax⟩,lx⟩) (HD.out.nb NA))).keep hk2 hPg)
      have R3:=Lib.hid (show ∀ g,vo.ownBlock=some g->w4.heap.size<=g from fun g hg=>by
       rcases hf2 g hg with h | h
       ·exact HF.out g h
       ·have hs:=(N.out.tr NA).size
        simp only[World.size_alloc] at hs h
        exact Nat.le_trans hs h)
      have R4:=Lib.hid (show Nb w4 wB from (N.out.tr NA).trans (hk2.toBelow (N.out.tr NA).size HF.out))
      clear ho2 hk2 hf2 NA hPg B12 v0 v1 v2 v3 v4 v5 v6 v7 v8 v9 v10 v11
      go_wp2
      go_roundw
      case rel=>exact⟨j+1,_,by omega,by go_num,R1.out,R2.out,by rw[List.map_append,HM.out,TN.out];rfl,R3.out,R4.out⟩
      case measure=>simp[intOf];omega
    ·have hlt':decide ((j:Int) < (q.its.length:Int))=false:=decide_eq_false (by omega)
     obtain rfl:j=q.its.length:=by omega
     have hm2:=HM.out
     rw[List.take_of_length_le (Nat.le_refl _)] at hm2
     have hLl:L.length=(delI (kk:Nat) q.its).length:=by rw[<- hm2,List.length_map]
     obtain⟨wa,wc,rfl,hwi⟩:=OW.out.its (RW.out.up (fun k hk => .inl hk)) (X:=fun k=>P3 k\/(w4.heap.size<=k/\k < wr.heap.size)) (fun g hg => .inr ⟨HF.out g hg,OW.out.lt hg⟩)
     rw[hm2] at hwi
     rw[hLl]
     have hdl:(delI (kk:Nat) q.its).length<=100:=by
      have h2:=List.length_filter_le (fun x:It=>((x.no:Nat):Int) != ((kk:Nat):Int)) q.its
      unfold delI
      omega
     have WI:=Lib.hid hwi
     have NQ:=Lib.hid (N4.out.keep N.out)
     have PX:=Lib.hid (show ∀ k,(P3 k\/(w4.heap.size<=k/\k < wr.heap.size))->k < wr.heap.size from fun k hk=>by
      rcases hk with h | h
      ·exact Nat.lt_of_lt_of_le (PB.out k h) N.out.size
      ·exact h.2)
     clear hwi hm2 hLl OW RW HM HF N4
     go_wp2_with fail
     refine (NQ.out.all (HK.out.below (K1.out.tr NQ.out.nb))).mono ?_
     rintro e w5 ⟨aB,cB,P5,rfl,hit5,hP5,n5,hN5⟩
     have hi5:=items_any aB cB _ P5 w5 hit5 (by show (delI (kk:Nat) q.its).length<=1000;omega) (fun k hk=>(hP5 k hk).2)
     have HI5:=Lib.hid hi5
     have N5:=Lib.hid (hN5.less (Y:=noX) (fun k hk=>hk.elim))
     have M5:=Lib.hid n5
     clear hit5 hP5 n5 hN5 hi5 NQ
     go_wp2_with fail
     refine HI5.out.mono ?_
     rintro e w6 ⟨v6,L6,rfl,o6,r6,m6,f6,n6⟩
     have M6:=Lib.hid (M5.out.tr n6)
     have O6:=Lib.hid o6
     have R6:=Lib.hid r6
     have HM6:=Lib.hid (show L6.map Prod.fst=delI (kk:Nat) q.its from m6)
     have N6:=Lib.hid (N5.out.keep n6)
     clear o6 r6 m6 f6 n6 HI5 N5
     go_wp2_with fail
     refine (items_any wa wc (delI (kk:Nat) q.its) _ w6 (WI.out.nb M6.out) (by omega) (fun k hk=>Nat.lt_of_lt_of_le (PX.out k hk) M6.out.size)).mono ?_
     rintro e w7 ⟨v7,L7,rfl,o7,r7,m7,f7,n7⟩
     obtain⟨a6,c6,rfl,i6⟩:=(O6.out.nb n7).its ((R6.out.nb n7).up (Y:=fun _=>True) (fun _ _=>trivial)) (fun _ _=>trivial)
     obtain⟨a7,c7,rfl,i7⟩:=o7.its (r7.up (Y:=fun _=>True) (fun _ _=>trivial)) (fun _ _=>trivial)
     rw[HM6.out] at i6
     rw[m7] at i7
     have l6:L6.length=(delI (kk:Nat) q.its).length:=by rw[<- HM6.out,List.length_map]
     have l7:L7.length=(delI (kk:Nat) q.its).length:=by rw[<- m7,List.length_map]
     rw[l6,l7]
     have I6:=Lib.hid i6
     have I7:=Lib.hid i7
     have N7:=Lib.hid (N6.out.keep n7)
     clear o7 r7 m7 f7 n7 i6 i7 l6 l7 O6 R6 HM6 N6 WI
     go_wp2_with fail
     refine (sames14_any _ a6 a7 c6 c7 _ _ w7 I6.out I7.out).mono ?_
     rintro e w8 ⟨rfl,n8⟩
     have N8:=Lib.hid (N7.out.keep n8)
     have hc8:=N8.out.cancel ((kk:Nat):Int) (HK.out.below (K1.out.tr N8.out.nb))
     rw[show (q.cancel ((kk:Nat):Int)).cancelE ((kk:Nat):Int)=9 by unfold Qu.cancelE Qu.cancel;rw[if_neg (by rw[has_del];simp)]] at hc8
     have HC8:=Lib.hid hc8
     clear n8 hc8 N7 I6 I7
     go_wp2_with fail
     refine HC8.out.mono ?_
     rintro e w9 ⟨_,rfl,_,_,hn9⟩
     have N9:=Lib.hid hn9.nb
     clear hn9
     go_wp2
     go_ret
     exact⟨rfl,K1.out.tr N9.out⟩
  ·have d1:decide ((1:Int)<=(kk:Int))=true:=decide_eq_true (by omega)
   have d1':decide (1<=kk)=true:=decide_eq_true (by omega)
   have d2:decide ((kk:Int)<=(q.last:Int))=false:=decide_eq_false (by omega)
   have d2':decide (kk<=q.last)=false:=decide_eq_false (by omega)
   clear h
   go_wp2_with fail
   refine HCN.out.mono ?_
   rintro e w4 ⟨_,rfl,gk,gX,hn⟩
   have N4:=Lib.hid (hn.less (Y:=noX) (fun k hk=>hk.elim))
   have IT:=Lib.hid (IT3.out.keep gk (fun k hk=>gX k (.inr hk)))
   have PB:=Lib.hid (show ∀ k,P3 k->k < w4.heap.size from fun k hk=>Nat.lt_of_lt_of_le (PB3.out k hk).2 gk.size)
   clear gk gX hn HCN IT3 N3
   go_wp2
   go_loopw [10,53] (fun ov ix wr=>∃ (j:Nat) (L:List (It × Value)),j<=q.its.length/\ix = .int .i64 j/\OwnIQ wr ov L/\RowI wr L P3/\L.map Prod.fst=delI (kk:Nat) (q.its.take j)/\(∀ g,ov.ownBlock=some g->w4.heap.size<=g)/\Nb w4 wr) (fun _ ix _=>q.its.length - (intOf ix).toNat)
   case atStart=>exact⟨0,[],Nat.zero_le _,rfl,OwnIQ.nil _,RowI.nil _ _,rfl,by simp[Value.ownBlock],Nb.rfl⟩
   case round =>
    obtain⟨j,L,hj,rfl,ho,hr,hm,hf,hn⟩:=hrel
    have OW:=Lib.hid ho
    have RW:=Lib.hid hr
    have HM:=Lib.hid hm
    have HF:=Lib.hid hf
    have N:=Lib.hid hn
    clear ho hr hm hf hn
    by_cases hlt:j < q.its.length
    ·have hlt':decide ((j:Int) < (q.its.length:Int))=true:=decide_eq_true (by omega)
     have hLL:L.length<=100:=by
      have h:=congrArg List.length HM.out
      have h2:=List.length_filter_le (fun x:It=>((x.no:Nat):Int) != ((kk:Nat):Int)) (q.its.take j)
      rw[List.length_map] at h
      unfold delI at h
      rw[List.length_take] at h2
      have:min j q.its.length<=100:=by omega
      omega
     have hdt:=del_take ((kk:Nat):Int) hlt
     obtain⟨⟨nx,⟨Kx,Ix,Xx,Rx,Bx,Ex,Sx,Dx,Vx,Ax⟩,lx⟩,hx⟩:∃ x,q.its.getD j dI=x:=⟨_,rfl⟩
     obtain⟨b,of,rfl,_⟩:=IT.out.hcells (by omega)
     obtain⟨pa,pc,hcl⟩:=IT.out.atW hlt hx
     obtain⟨⟨v0,v1,v2,v3,v4,v5,v6,v7,v8,v9,v10,v11⟩,hd⟩:=hcl wr N.out
     rw[hx] at hdt
     simp only at hdt
     have HD:=Lib.hid hd
     clear hcl hx hd
     by_cases hkk:nx=kk
     ·have d1:(((nx:Nat):Int) != ((kk:Nat):Int))=false:=by rw[bne_eq_false_iff_eq];omega
      have TN:=Lib.hid (show delI (kk:Nat) (q.its.take (j+1))=delI (kk:Nat) (q.its.take j) by rw[hdt,if_pos (by rw[beq_iff_eq];omega),List.append_nil])
      clear hdt hkk
      go_wp2
      go_roundw
      case rel=>exact⟨j+1,L,by omega,by go_num,OW.out.nb (Nb.rfl.al _),RW.out.nb (Nb.rfl.al _),by rw[HM.out,TN.out],HF.out,N.out.al _⟩
      case measure=>simp[intOf];omega
     ·have d1:(((nx:Nat):Int) != ((kk:Nat):Int))=true:=by rw[bne_iff_ne];omega
      have TN:=Lib.hid (show delI (kk:Nat) (q.its.take (j+1))=delI (kk:Nat) (q.its.take j)++[⟨nx,⟨Kx,Ix,Xx,Rx,Bx,Ex,Sx,Dx,Vx,Ax⟩,lx⟩] by rw[hdt,if_neg (by rw[beq_iff_eq];omega)])
      have B12:=Lib.hid (Blk.new (wr.alloc (.cells #[.int .i64 nx,.int .i64 Kx,.int .u32 Ix,.bool Xx,.bool Rx,.bool Bx,.bool Ex,.bool Sx,.int .u8 Dx,.int .u8 Vx,.int .u32 Ax,.slice pa lx.length pc] 40)) #[.int .i64 nx,.int .i64 Kx,.int .u32 Ix,.bool Xx,.bool Rx,.bool Bx,.bool Ex,.bool Sx,.int .u8 Dx,.int .u8 Vx,.int .u32 Ax,.slice pa lx.length pc] 40)
      clear hdt hkk
      go_wp2_with (at_builtin;refine wpList_appIQ_1 _ rfl (.tmp 61) (.tmp 63) rfl _ L rfl (OW.out.nb ((Nb.rfl.al _).al _)) _ ⟨nx,⟨Kx,Ix,Xx,Rx,Bx,Ex,Sx,Dx,Vx,Ax⟩,lx⟩ pa lx.length pc rfl ?_ (by omega) ?_)
      ·have h:=B12.out
       rw[World.size_alloc] at h
       exact fun i u hu=>(h.cell i).trans (by rw[List.getElem?_toArray];exact hu)
      intro vo wB ho2 hk2 hf2
      have NA:Nb wr ((wr.alloc (.cells #[.int .i64 nx,.int .i64 Kx,.int .u32 Ix,.bool Xx,.bool Rx,.bool Bx,.bool Ex,.bool Sx,.int .u8 Dx,.int .u8 Vx,.int .u32 Ax,.slice pa lx.length pc] 40)).alloc (.cells #[.int .i64 nx,.int .i64 Kx,.int .u32 Ix,.bool Xx,.bool Rx,.bool Bx,.bool Ex,.bool Sx,.int .u8 Dx,.int .u8 Vx,.int .u32 Ax,.slice pa lx.length pc] 40)):=(Nb.rfl.al _).al _
      have hPg:∀ k,P3 k->¬(fun k=>Value.ownBlock _=some k) k:=fun k hp hq=>by
       have h1:=HF.out k hq
       have h2:=PB.out k hp
       omega
      have R1:=Lib.hid ho2
      have R2:=Lib.hid (((RW.out.nb NA).app (RowI.one (e:=⟨nx,⟨Kx,Ix,Xx,Rx,Bx,Ex,Sx,Dx,Vx,Ax⟩,lx⟩) (HD.out.nb NA))).keep hk2 hPg)
      have R3:=Lib.hid (show ∀ g,vo.ownBlock=some g->w4.heap.size<=g from fun g hg=>by
       rcases hf2 g hg with h | h
       ·exact HF.out g h
       ·have hs:=(N.out.tr NA).size
        simp only[World.size_alloc] at hs h
        exact Nat.le_trans hs h)
      have R4:=Lib.hid (show Nb w4 wB from (N.out.tr NA).trans (hk2.toBelow (N.out.tr NA).size HF.out))
      clear ho2 hk2 hf2 NA hPg B12 v0 v1 v2 v3 v4 v5 v6 v7 v8 v9 v10 v11
      go_wp2
      go_roundw
      case rel=>exact⟨j+1,_,by omega,by go_num,R1.out,R2.out,by rw[List.map_append,HM.out,TN.out];rfl,R3.out,R4.out⟩
      case measure=>simp[intOf];omega
    ·have hlt':decide ((j:Int) < (q.its.length:Int))=false:=decide_eq_false (by omega)
     obtain rfl:j=q.its.length:=by omega
     have hm2:=HM.out
     rw[List.take_of_length_le (Nat.le_refl _)] at hm2
     have hLl:L.length=(delI (kk:Nat) q.its).length:=by rw[<- hm2,List.length_map]
     obtain⟨wa,wc,rfl,hwi⟩:=OW.out.its (RW.out.up (fun k hk => .inl hk)) (X:=fun k=>P3 k\/(w4.heap.size<=k/\k < wr.heap.size)) (fun g hg => .inr ⟨HF.out g hg,OW.out.lt hg⟩)
     rw[hm2] at hwi
     rw[hLl]
     have hdl:(delI (kk:Nat) q.its).length<=100:=by
      have h2:=List.length_filter_le (fun x:It=>((x.no:Nat):Int) != ((kk:Nat):Int)) q.its
      unfold delI
      omega
     have WI:=Lib.hid hwi
     have NQ:=Lib.hid (N4.out.keep N.out)
     have PX:=Lib.hid (show ∀ k,(P3 k\/(w4.heap.size<=k/\k < wr.heap.size))->k < wr.heap.size from fun k hk=>by
      rcases hk with h | h
      ·exact Nat.lt_of_lt_of_le (PB.out k h) N.out.size
      ·exact h.2)
     clear hwi hm2 hLl OW RW HM HF N4
     go_wp2_with fail
     refine (NQ.out.all (HK.out.below (K1.out.tr NQ.out.nb))).mono ?_
     rintro e w5 ⟨aB,cB,P5,rfl,hit5,hP5,n5,hN5⟩
     have hi5:=items_any aB cB _ P5 w5 hit5 (by show (delI (kk:Nat) q.its).length<=1000;omega) (fun k hk=>(hP5 k hk).2)
     have HI5:=Lib.hid hi5
     have N5:=Lib.hid (hN5.less (Y:=noX) (fun k hk=>hk.elim))
     have M5:=Lib.hid n5
     clear hit5 hP5 n5 hN5 hi5 NQ
     go_wp2_with fail
     refine HI5.out.mono ?_
     rintro e w6 ⟨v6,L6,rfl,o6,r6,m6,f6,n6⟩
     have M6:=Lib.hid (M5.out.tr n6)
     have O6:=Lib.hid o6
     have R6:=Lib.hid r6
     have HM6:=Lib.hid (show L6.map Prod.fst=delI (kk:Nat) q.its from m6)
     have N6:=Lib.hid (N5.out.keep n6)
     clear o6 r6 m6 f6 n6 HI5 N5
     go_wp2_with fail
     refine (items_any wa wc (delI (kk:Nat) q.its) _ w6 (WI.out.nb M6.out) (by omega) (fun k hk=>Nat.lt_of_lt_of_le (PX.out k hk) M6.out.size)).mono ?_
     rintro e w7 ⟨v7,L7,rfl,o7,r7,m7,f7,n7⟩
     obtain⟨a6,c6,rfl,i6⟩:=(O6.out.nb n7).its ((R6.out.nb n7).up (Y:=fun _=>True) (fun _ _=>trivial)) (fun _ _=>trivial)
     obtain⟨a7,c7,rfl,i7⟩:=o7.its (r7.up (Y:=fun _=>True) (fun _ _=>trivial)) (fun _ _=>trivial)
     rw[HM6.out] at i6
     rw[m7] at i7
     have l6:L6.length=(delI (kk:Nat) q.its).length:=by rw[<- HM6.out,List.length_map]
     have l7:L7.length=(delI (kk:Nat) q.its).length:=by rw[<- m7,List.length_map]
     rw[l6,l7]
     have I6:=Lib.hid i6
     have I7:=Lib.hid i7
     have N7:=Lib.hid (N6.out.keep n7)
     clear o7 r7 m7 f7 n7 i6 i7 l6 l7 O6 R6 HM6 N6 WI
     go_wp2_with fail
     refine (sames14_any _ a6 a7 c6 c7 _ _ w7 I6.out I7.out).mono ?_
     rintro e w8 ⟨rfl,n8⟩
     have N8:=Lib.hid (N7.out.keep n8)
     have hc8:=N8.out.cancel ((kk:Nat):Int) (HK.out.below (K1.out.tr N8.out.nb))
     rw[show (q.cancel ((kk:Nat):Int)).cancelE ((kk:Nat):Int)=9 by unfold Qu.cancelE Qu.cancel;rw[if_neg (by rw[has_del];simp)]] at hc8
     have HC8:=Lib.hid hc8
     clear n8 hc8 N7 I6 I7
     go_wp2_with fail
     refine HC8.out.mono ?_
     rintro e w9 ⟨_,rfl,_,_,hn9⟩
     have N9:=Lib.hid hn9.nb
     clear hn9
     go_wp2
     go_ret
     exact⟨rfl,K1.out.tr N9.out⟩
 ·have hce:q.cancelE ((kk:Nat):Int)=0:=HC.out true (HCE.out.2 (by omega))
  rw[hce] at HCN
  have d1:decide ((1:Int)<=(kk:Int))=true:=decide_eq_true (by omega)
  have d1':decide (1<=kk)=true:=decide_eq_true (by omega)
  have d2:decide ((kk:Int)<=(q.last:Int))=true:=decide_eq_true (by omega)
  have d2':decide (kk<=q.last)=true:=decide_eq_true (by omega)
  clear hce HC hk0
  go_wp2_with fail
  refine HCN.out.mono ?_
  rintro e w4 ⟨_,rfl,gk,gX,hn⟩
  have N4:=Lib.hid (hn.less (Y:=noX) (fun k hk=>hk.elim))
  have IT:=Lib.hid (IT3.out.keep gk (fun k hk=>gX k (.inr hk)))
  have PB:=Lib.hid (show ∀ k,P3 k->k < w4.heap.size from fun k hk=>Nat.lt_of_lt_of_le (PB3.out k hk).2 gk.size)
  clear gk gX hn HCN IT3 N3
  go_wp2
  go_loopw [10,53] (fun ov ix wr=>∃ (j:Nat) (L:List (It × Value)),j<=q.its.length/\ix = .int .i64 j/\OwnIQ wr ov L/\RowI wr L P3/\L.map Prod.fst=delI (kk:Nat) (q.its.take j)/\(∀ g,ov.ownBlock=some g->w4.heap.size<=g)/\Nb w4 wr) (fun _ ix _=>q.its.length - (intOf ix).toNat)
  case atStart=>exact⟨0,[],Nat.zero_le _,rfl,OwnIQ.nil _,RowI.nil _ _,rfl,by simp[Value.ownBlock],Nb.rfl⟩
  case round =>
   obtain⟨j,L,hj,rfl,ho,hr,hm,hf,hn⟩:=hrel
   have OW:=Lib.hid ho
   have RW:=Lib.hid hr
   have HM:=Lib.hid hm
   have HF:=Lib.hid hf
   have N:=Lib.hid hn
   clear ho hr hm hf hn
   by_cases hlt:j < q.its.length
   ·have hlt':decide ((j:Int) < (q.its.length:Int))=true:=decide_eq_true (by omega)
    have hLL:L.length<=100:=by
     have h:=congrArg List.length HM.out
     have h2:=List.length_filter_le (fun x:It=>((x.no:Nat):Int) != ((kk:Nat):Int)) (q.its.take j)
     rw[List.length_map] at h
     unfold delI at h
     rw[List.length_take] at h2
     have:min j q.its.length<=100:=by omega
     omega
    have hdt:=del_take ((kk:Nat):Int) hlt
    obtain⟨⟨nx,⟨Kx,Ix,Xx,Rx,Bx,Ex,Sx,Dx,Vx,Ax⟩,lx⟩,hx⟩:∃ x,q.its.getD j dI=x:=⟨_,rfl⟩
    obtain⟨b,of,rfl,_⟩:=IT.out.hcells (by omega)
    obtain⟨pa,pc,hcl⟩:=IT.out.atW hlt hx
    obtain⟨⟨v0,v1,v2,v3,v4,v5,v6,v7,v8,v9,v10,v11⟩,hd⟩:=hcl wr N.out
    rw[hx] at hdt
    simp only at hdt
    have HD:=Lib.hid hd
    clear hcl hx hd
    by_cases hkk:nx=kk
    ·have d1:(((nx:Nat):Int) != ((kk:Nat):Int))=false:=by rw[bne_eq_false_iff_eq];omega
     have TN:=Lib.hid (show delI (kk:Nat) (q.its.take (j+1))=delI (kk:Nat) (q.its.take j) by rw[hdt,if_pos (by rw[beq_iff_eq];omega),List.append_nil])
     clear hdt hkk
     go_wp2
     go_roundw
     case rel=>exact⟨j+1,L,by omega,by go_num,OW.out.nb (Nb.rfl.al _),RW.out.nb (Nb.rfl.al _),by rw[HM.out,TN.out],HF.out,N.out.al _⟩
     case measure=>simp[intOf];omega
    ·have d1:(((nx:Nat):Int) != ((kk:Nat):Int))=true:=by rw[bne_iff_ne];omega
     have TN:=Lib.hid (show delI (kk:Nat) (q.its.take (j+1))=delI (kk:Nat) (q.its.take j)++[⟨nx,⟨Kx,Ix,Xx,Rx,Bx,Ex,Sx,Dx,Vx,Ax⟩,lx⟩] by rw[hdt,if_neg (by rw[beq_iff_eq];omega)])
     have B12:=Lib.hid (Blk.new (wr.alloc (.cells #[.int .i64 nx,.int .i64 Kx,.int .u32 Ix,.bool Xx,.bool Rx,.bool Bx,.bool Ex,.bool Sx,.int .u8 Dx,.int .u8 Vx,.int .u32 Ax,.slice pa lx.length pc] 40)) #[.int .i64 nx,.int .i64 Kx,.int .u32 Ix,.bool Xx,.bool Rx,.bool Bx,.bool Ex,.bool Sx,.int .u8 Dx,.int .u8 Vx,.int .u32 Ax,.slice pa lx.length pc] 40)
     clear hdt hkk
     go_wp2_with (at_builtin;refine wpList_appIQ_1 _ rfl (.tmp 61) (.tmp 63) rfl _ L rfl (OW.out.nb ((Nb.rfl.al _).al _)) _ ⟨nx,⟨Kx,Ix,Xx,Rx,Bx,Ex,Sx,Dx,Vx,Ax⟩,lx⟩ pa lx.length pc rfl ?_ (by omega) ?_)
     ·have h:=B12.out
      rw[World.size_alloc] at h
      exact fun i u hu=>(h.cell i).trans (by rw[List.getElem?_toArray];exact hu)
     intro vo wB ho2 hk2 hf2
     have NA:Nb wr ((wr.alloc (.cells #[.int .i64 nx,.int .i64 Kx,.int .u32 Ix,.bool Xx,.bool Rx,.bool Bx,.bool Ex,.bool Sx,.int .u8 Dx,.int .u8 Vx,.int .u32 Ax,.slice pa lx.length pc] 40)).alloc (.cells #[.int .i64 nx,.int .i64 Kx,.int .u32 Ix,.bool Xx,.bool Rx,.bool Bx,.bool Ex,.bool Sx,.int .u8 Dx,.int .u8 Vx,.int .u32 Ax,.slice pa lx.length pc] 40)):=(Nb.rfl.al _).al _
     have hPg:∀ k,P3 k->¬(fun k=>Value.ownBlock _=some k) k:=fun k hp hq=>by
      have h1:=HF.out k hq
      have h2:=PB.out k hp
      omega
     have R1:=Lib.hid ho2
     have R2:=Lib.hid (((RW.out.nb NA).app (RowI.one (e:=⟨nx,⟨Kx,Ix,Xx,Rx,Bx,Ex,Sx,Dx,Vx,Ax⟩,lx⟩) (HD.out.nb NA))).keep hk2 hPg)
     have R3:=Lib.hid (show ∀ g,vo.ownBlock=some g->w4.heap.size<=g from fun g hg=>by
      rcases hf2 g hg with h | h
      ·exact HF.out g h
      ·have hs:=(N.out.tr NA).size
       simp only[World.size_alloc] at hs h
       exact Nat.le_trans hs h)
     have R4:=Lib.hid (show Nb w4 wB from (N.out.tr NA).trans (hk2.toBelow (N.out.tr NA).size HF.out))
     clear ho2 hk2 hf2 NA hPg B12 v0 v1 v2 v3 v4 v5 v6 v7 v8 v9 v10 v11
     go_wp2
     go_roundw
     case rel=>exact⟨j+1,_,by omega,by go_num,R1.out,R2.out,by rw[List.map_append,HM.out,TN.out];rfl,R3.out,R4.out⟩
     case measure=>simp[intOf];omega
   ·have hlt':decide ((j:Int) < (q.its.length:Int))=false:=decide_eq_false (by omega)
    obtain rfl:j=q.its.length:=by omega
    have hm2:=HM.out
    rw[List.take_of_length_le (Nat.le_refl _)] at hm2
    have hLl:L.length=(delI (kk:Nat) q.its).length:=by rw[<- hm2,List.length_map]
    obtain⟨wa,wc,rfl,hwi⟩:=OW.out.its (RW.out.up (fun k hk => .inl hk)) (X:=fun k=>P3 k\/(w4.heap.size<=k/\k < wr.heap.size)) (fun g hg => .inr ⟨HF.out g hg,OW.out.lt hg⟩)
    rw[hm2] at hwi
    rw[hLl]
    have hdl:(delI (kk:Nat) q.its).length<=100:=by
     have h2:=List.length_filter_le (fun x:It=>((x.no:Nat):Int) != ((kk:Nat):Int)) q.its
     unfold delI
     omega
    have WI:=Lib.hid hwi
    have NQ:=Lib.hid (N4.out.keep N.out)
    have PX:=Lib.hid (show ∀ k,(P3 k\/(w4.heap.size<=k/\k < wr.heap.size))->k < wr.heap.size from fun k hk=>by
     rcases hk with h | h
     ·exact Nat.lt_of_lt_of_le (PB.out k h) N.out.size
     ·exact h.2)
    clear hwi hm2 hLl OW RW HM HF N4
    go_wp2_with fail
    refine (NQ.out.all (HK.out.below (K1.out.tr NQ.out.nb))).mono ?_
    rintro e w5 ⟨aB,cB,P5,rfl,hit5,hP5,n5,hN5⟩
    have hi5:=items_any aB cB _ P5 w5 hit5 (by show (delI (kk:Nat) q.its).length<=1000;omega) (fun k hk=>(hP5 k hk).2)
    have HI5:=Lib.hid hi5
    have N5:=Lib.hid (hN5.less (Y:=noX) (fun k hk=>hk.elim))
    have M5:=Lib.hid n5
    clear hit5 hP5 n5 hN5 hi5 NQ
    go_wp2_with fail
    refine HI5.out.mono ?_
    rintro e w6 ⟨v6,L6,rfl,o6,r6,m6,f6,n6⟩
    have M6:=Lib.hid (M5.out.tr n6)
    have O6:=Lib.hid o6
    have R6:=Lib.hid r6
    have HM6:=Lib.hid (show L6.map Prod.fst=delI (kk:Nat) q.its from m6)
    have N6:=Lib.hid (N5.out.keep n6)
    clear o6 r6 m6 f6 n6 HI5 N5
    go_wp2_with fail
    refine (items_any wa wc (delI (kk:Nat) q.its) _ w6 (WI.out.nb M6.out) (by omega) (fun k hk=>Nat.lt_of_lt_of_le (PX.out k hk) M6.out.size)).mono ?_
    rintro e w7 ⟨v7,L7,rfl,o7,r7,m7,f7,n7⟩
    obtain⟨a6,c6,rfl,i6⟩:=(O6.out.nb n7).its ((R6.out.nb n7).up (Y:=fun _=>True) (fun _ _=>trivial)) (fun _ _=>trivial)
    obtain⟨a7,c7,rfl,i7⟩:=o7.its (r7.up (Y:=fun _=>True) (fun _ _=>trivial)) (fun _ _=>trivial)
    rw[HM6.out] at i6
    rw[m7] at i7
    have l6:L6.length=(delI (kk:Nat) q.its).length:=by rw[<- HM6.out,List.length_map]
    have l7:L7.length=(delI (kk:Nat) q.its).length:=by rw[<- m7,List.length_map]
    rw[l6,l7]
    have I6:=Lib.hid i6
    have I7:=Lib.hid i7
    have N7:=Lib.hid (N6.out.keep n7)
    clear o7 r7 m7 f7 n7 i6 i7 l6 l7 O6 R6 HM6 N6 WI
    go_wp2_with fail
    refine (sames14_any _ a6 a7 c6 c7 _ _ w7 I6.out I7.out).mono ?_
    rintro e w8 ⟨rfl,n8⟩
    have N8:=Lib.hid (N7.out.keep n8)
    have hc8:=N8.out.cancel ((kk:Nat):Int) (HK.out.below (K1.out.tr N8.out.nb))
    rw[show (q.cancel ((kk:Nat):Int)).cancelE ((kk:Nat):Int)=9 by unfold Qu.cancelE Qu.cancel;rw[if_neg (by rw[has_del];simp)]] at hc8
    have HC8:=Lib.hid hc8
    clear n8 hc8 N7 I6 I7
    go_wp2_with fail
    refine HC8.out.mono ?_
    rintro e w9 ⟨_,rfl,_,_,hn9⟩
    have N9:=Lib.hid hn9.nb
    clear hn9
    go_wp2
    go_ret
    exact⟨rfl,K1.out.tr N9.out⟩
theorem door_met (os:Os) (args:Array Value):laidMetH Tryd.prog Rows.queueCancelsRow.laid ((World.doorLaid Tryd.prog 24 os).forCall (fun _ _=>0) ⟨#[],args,[]⟩).memory :=
 laidMetH_of_parts3 (fuel:=8) (laidMet_of_run' 8 (by kernel_rfl) (by kernel_rfl)) (by kernel_rfl) (by kernel_rfl)
theorem lifted (os:Os) (started:os.Started) (H:Type) (enc:TypeId × Value->H) :
    ReturnsInHanded {} Tryd.checked os 5 .any (fun w args=>(Rows.queueCancelsSpec.pre enc Tryd.prog Tryd.f5 [] false w args/\laidMetH Tryd.prog Rows.queueCancelsRow.laid w)/\sizedMet enc Tryd.prog Tryd.f5 (OpenSpec.ofChange Rows.queueCancelsSpec) false w args)
     (Rows.queueCancelsSpec.post enc Tryd.prog Tryd.f5 false true false false):=by
 refine returnsInHanded_of_change_and (C:=Tryd.checked) (X:=fun w _=>laidMetH Tryd.prog Rows.queueCancelsRow.laid w) (fun _ _ _ hh h=>h.of_heap hh) own started (by kernel_rfl) Tryd.func5
  (ChangeSpec.witness_shaped (enc:=enc) (C:=Tryd.checked) (os:=os) (X:=fun w _=>laidMetH Tryd.prog Rows.queueCancelsRow.laid w) false (World.doorLaid Tryd.prog 24 os) #[.slice none 0 0,.int .u8 0] 8 rfl (World.shaped_of_RefB (by kernel_rfl) (by kernel_rfl)) (by kernel_rfl) (by kernel_rfl) (by kernel_rfl) (door_met os _)) ?_
 intro W base args ds gs before hval0 hW _ hR hL _
 have hval:∀ (j:Nat) t v,Tryd.f5.params[j]? = some t->args[j]? = some v->Value.okWide Tryd.prog W .any base t v:=hval0
 have hW':=hW
 obtain⟨p,q,hA0,hV,rfl,hfz,hnd⟩:=hW
 have hA:DataW.TrodAll enc Tryd.prog W 0 (fun _=>true) true Tryd.f5.params.toList args.toList ds p:=hA0
 rw[Tryd.params5] at hA hval
 obtain⟨v0,vs0,d0,ds0,p0,q0,hargs,rfl,rfl,h0,r0⟩:=trodAll_cons hA
 obtain⟨v1,vs1,d1,ds1,p1,q1,rfl,rfl,rfl,h1,r1⟩:=trodAll_cons r0
 obtain⟨rfl,rfl,rfl⟩:=trodAll_nil r1
 obtain rfl:args=#[v0,v1]:=by cases args;simp_all
 obtain⟨rfl,rfl⟩:=trodVars_none hV
 have k0:=h0
 have lt0:∀ x∈p0,x.block < W.heap.size:=by obtain⟨m,hm⟩:=k0;exact DataW.trod_lt m _ _ _ hm
 have k1:=h1
 have lt1:∀ x∈p1,x.block < W.heap.size:=by obtain⟨m,hm⟩:=k1;exact DataW.trod_lt m _ _ _ hm
 clear hA0
 obtain⟨a0,lc0,cap0,rfl⟩:=okWide_slice Tryd.underlying56 (hval 0 56 v0 rfl rfl)
 obtain⟨fu0,hf0⟩:=h0
 have hc0:DataW.trod enc Tryd.prog W 0 (fun _=>true) true fu0 56 [.slice a0 lc0 cap0]=some (d0,p0):=hf0
 obtain⟨b0,cb0,l0,e0,hb0,n0⟩:=frames_opn hc0
 simp only[Value.slice.injEq] at e0
 obtain⟨rfl,rfl,rfl⟩:=e0
 obtain⟨a1,rfl,rfl,rfl,w1⟩:=open_int Tryd.underlying5 (hval 1 5 v1 rfl rfl) h1
 refine (walk W (longer_of hL) a0 cap0 l0 hb0 n0 a1 w1).mono fun e W' ⟨he,bel⟩ => ?_
 subst he
 exact⟨_,rfl,_,_,_,[],_,[],hW',trodAll_mk1 (shut_bool Tryd.underlying4 _),(trodAll_cons_mk (Below.trod laidOut (by kernel_rfl) (of_decide_eq_true (by kernel_rfl)) k0 bel lt0) (trodAll_cons_mk (Below.trod laidOut (by kernel_rfl) (of_decide_eq_true (by kernel_rfl)) k1 bel lt1) trodAll_mk0)),rfl,bel.frame _,fun h=>by cases h⟩
theorem over:Rows.queueCancelsRow.holds Tryd.pinned (OpenSpec.ofChange Rows.queueCancelsSpec) :=
 OpenClaim.holds_of_wide 5 Tryd.f5 rfl rfl rfl rfl rfl rfl rfl ⟨rfl,rfl,rfl,rfl,rfl⟩ rfl rfl rfl rfl rfl (by kernel_rfl) Tryd.func5 (by kernel_rfl)
  (of_decide_eq_true (by kernel_rfl)) (by unfold Func.isWrapper;first | (rw[if_pos (by decide +kernel)];kernel_rfl) | (rw[if_neg (by decide +kernel)];exact⟨rfl,rfl⟩))
  (fun os started H enc _=>lifted os started H enc)
theorem plain (f : FuncId) (fn : Func) (hf : Tryd.pinned.checked.prog.funcNamed "omnibus/omnibuslaw14.QueueCancels" = some f) (hfn : Tryd.pinned.checked.prog.funcs[f]? = some fn) :
    true=Tryd.pinned.checked.prog.looks []/\∀ (j:Nat) t,fn.params[j]? = some t->Tryd.pinned.checked.prog.wantsStandIn t=false:=by
 obtain rfl : f = 5 := Option.some.inj ((show Tryd.prog.funcNamed "omnibus/omnibuslaw14.QueueCancels" = some 5 by kernel_rfl).symm.trans hf) |>.symm
 obtain rfl:fn=Tryd.f5:=(Option.some.inj (Tryd.func5.symm.trans hfn)).symm
 refine⟨by kernel_rfl,fun j t ht => ?_⟩
 rw[Tryd.params5] at ht
 have hm:t∈[56,5]:=by have:=Array.mem_of_getElem? ht;simp at this ⊢;omega
 have hall:([56,5].all fun u => !Tryd.prog.wantsStandIn u)=true:=by kernel_rfl
 exact (show Tryd.prog.wantsStandIn t=false by simpa using List.all_eq_true.1 hall t hm)
theorem proved:Rows.QueueCancelsCardSaid :=
 Claim7.holds_tied_plain_at .later [] _ _ _ _ over (fun _ h=>by cases h) (by kernel_rfl) (fun _ h=>by cases h) queueCancels_row_tie rfl ⟨rfl,rfl⟩ (by kernel_rfl) rfl plain (by kernel_rfl)
#print axioms proved
end Go.Proofs.YtdedoeeekcfkpaaDoor.queueCancels
