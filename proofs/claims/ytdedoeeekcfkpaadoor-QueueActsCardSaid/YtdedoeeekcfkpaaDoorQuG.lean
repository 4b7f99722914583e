
/- The document's queue of layer 14: one taken out by its number. No conditions. -/
import Derived.Test.YtdedoeeekcfkpaaDoorQuD
import Derived.Test.YtdedoeeekcfkpaaDoorGqa
set_option maxHeartbeats 3200000
set_option maxRecDepth 100000
namespace Go.Proofs.YtdedoeeekcfkpaaDoor
set_option linter.unusedVariables false
set_option linter.unusedSimpArgs false
open Go.RowKit
theorem ItsAt.rows {w:World} {a:Option Addr} {c:Nat} {es:List It} {P:Nat->Prop} (h:ItsAt w a c es P):∃ L:List (It × Value),L.map Prod.fst=es/\(∀ ad,a=some ad->∀ j u,(cellsI L)[j]? = some u->w.cell? (ad.add j)=some u)/\RowI w L P/\∀ p∈L,p.2.oneCell'=true:=by
 by_cases h0:0 < es.length
 ·obtain⟨b,o,rfl,_,hc⟩:=h.hcells h0
  have hk:∀ j,j < es.length->∃ p:Option Addr × Nat,(∀ i u,(itC (es.getD j dI) (.slice p.1 (es.getD j dI).l.length p.2))[i]? = some u->w.cell? ⟨b,o+j*12+i,none⟩=some u)/\DatP w p.1 p.2 (es.getD j dI).l P:=fun j hj=>by
   obtain⟨a',c',h1,h2⟩:=hc j hj
   exact⟨(a',c'),h1,h2⟩
  haveI:Inhabited (Option Addr × Nat):=⟨(none,0)⟩
  obtain⟨g,hg⟩:=Go.Deep.choose_lt hk
  have hL:((List.range es.length).map fun j=>(es.getD j dI,Value.slice (g j).1 (es.getD j dI).l.length (g j).2)).length=es.length:=by simp
  have hget:∀ j,j < es.length->((List.range es.length).map fun j=>(es.getD j dI,Value.slice (g j).1 (es.getD j dI).l.length (g j).2)).getD j dR=(es.getD j dI,Value.slice (g j).1 (es.getD j dI).l.length (g j).2):=fun j hj=>by simp[List.getD,hj]
  refine⟨(List.range es.length).map fun j=>(es.getD j dI,Value.slice (g j).1 (es.getD j dI).l.length (g j).2),?_,fun ad had j u hu => ?_,fun p hp => ?_,fun p hp => ?_⟩
  ·apply List.ext_getElem
   ·simp
   ·intro i h1 h2
    simp[List.getD,h2]
  ·obtain rfl:=Option.some.inj had
   have hj:j < es.length*12:=by
    have:=(List.getElem?_eq_some_iff.1 hu).1
    rw[cellsI_len,hL] at this
    exact this
   have hd:j / 12 < es.length:=by omega
   have e:=cellsI_get _ (j / 12) (by rw[hL];exact hd) (j%12) (by omega)
   rw[hget _ hd,show j / 12*12+j%12=j by omega,hu] at e
   rw[Addr.add_lit]
   have:=(hg _ hd).1 (j%12) u e.symm
   rwa[show o+j / 12*12+j%12=o+j by omega] at this
  ·obtain⟨j,hj,rfl⟩:=List.mem_map.1 hp
   exact⟨(g j).1,(g j).2,rfl,(hg j (List.mem_range.1 hj)).2⟩
  ·obtain⟨j,_,rfl⟩:=List.mem_map.1 hp
   rfl
 ·have:es=[]:=List.eq_nil_of_length_eq_zero (by omega)
  subst this
  exact⟨[],rfl,fun _ _ j u hu=>by simp[cellsI] at hu,RowI.nil _ _,fun p hp=>by simp at hp⟩
theorem own_none {w:World} {a:Option Addr} {n c:Nat} {l:List (It × Value)} (h:OwnIR w (.slice a n c) l):a=none->c=0:=by
 rintro rfl
 rcases h.2 with ⟨e,_⟩ | ⟨g,cap,cur,e,_⟩
 ·simp only[Value.slice.injEq,true_and] at e
  exact e.2
 ·simp at e
theorem refcancelQ_any (m:Nat) (q:Qu) (P:Nat->Prop) (n:Int) (w:World) (h:RQ w m q P) (hO:q.Ok) (h64:q.room<=64) :
    Calls Tryd.prog 16 #[.pointer (some ⟨m,0,none⟩),.int .i64 n] w fun e w'=>e = .returned (.int .i64 (q.cancelE n:Nat))/\TurnR w m (q.cancel n) P w':=by
 have HR:=Lib.hid h
 obtain⟨a,c,hb,hi,hPm,hPl,_⟩:=h
 have hl64:q.its.length<=64:=Nat.le_trans hO.room h64
 have HO:=Lib.hid hO
 have HB:=Lib.hid hb
 have HI:=Lib.hid hi
 have HPM:=Lib.hid hPm
 have HPL:=Lib.hid hPl
 have hm:=hb.lt
 have r2:=hb.cell 2
 simp only[List.getElem?_toArray,List.getElem?_cons_zero,List.getElem?_cons_succ] at r2
 clear hO h64 hb hi hPm hPl
 go_enter Tryd.func16,Tryd.ntmps16
 go_wp2
 clear r2
 go_loopw [12] (fun ix wr=>∃ k:Nat,k<=q.its.length/\ix = .int .i64 k/\Nb w wr/\hasI n (q.its.take k)=false) (fun ix _=>q.its.length - (intOf ix).toNat)
 case atStart=>exact⟨0,Nat.zero_le _,rfl,Nb.rfl,rfl⟩
 case round =>
  obtain⟨k,hk,rfl,hn,hno⟩:=hrel
  have N:=Lib.hid hn
  have HNO:=Lib.hid hno
  clear hn hno
  by_cases hlt:k < q.its.length
  ·have hlt':decide ((k:Int) < (q.its.length:Int))=true:=decide_eq_true (by omega)
   obtain⟨⟨nx,⟨Kx,Ix,Xx,Rx,Bx,Ex,Sx,Dx,Vx,Ax⟩,lx⟩,hx⟩:∃ x,q.its.getD k dI=x:=⟨_,rfl⟩
   obtain⟨b,of,rfl,_⟩:=HI.out.hcells (by omega)
   obtain⟨pa,pc,hcl⟩:=HI.out.atW hlt hx
   obtain⟨⟨v0,v1,v2,v3,v4,v5,v6,v7,v8,v9,v10,v11⟩,_⟩:=hcl wr N.out
   have hht:=has_take n hlt
   have hds:=del_split HO.out.apart hlt
   rw[hx] at hht hds
   simp only at hht hds
   by_cases he:((nx:Nat):Int)=n
   ·subst he
    have de:(((nx:Nat):Int)==((nx:Nat):Int))=true:=by rw[beq_iff_eq]
    have HDS:=Lib.hid hds
    have HCE:=Lib.hid (show q.cancelE ((nx:Nat):Int)=0 by
     unfold Qu.cancelE
     rw[if_pos]
     unfold hasI
     rw[List.any_eq_true]
     exact⟨q.its.getD k dI,it_in hlt,by rw[hx];exact de⟩)
    obtain⟨L1,m1,c1,w1',o1⟩:=((HI.out.head k (by omega)).rows)
    obtain⟨L2,m2,c2,w2',o2⟩:=((HI.out.cutL (k+1) (by omega)).rows)
    have hcH:=run_cutHI (some ⟨b,of,none⟩) q.its.length c k (by have:=HI.out.hcap;omega)
    have hcL:∀ w,(Instr.sliceAt 30 (.slice (some ⟨b,of,none⟩) q.its.length c) (some (.int .i64 ((k:Int)+1))) none none).run Tryd.prog w = .ok (.slice (cutI (some ⟨b,of,none⟩) c (k+1)) (q.its.length - (k+1)) (c - (k+1))) w:=fun w=>by
     have h:=run_cutLI (some ⟨b,of,none⟩) q.its.length c (k+1) (by omega) w
     push_cast at h
     exact h
    have N1:=Lib.hid (show Nb w ((wr.alloc (.cells #[.int .i64 nx,.int .i64 Kx,.int .u32 Ix,.bool Xx,.bool Rx,.bool Bx,.bool Ex,.bool Sx,.int .u8 Dx,.int .u8 Vx,.int .u32 Ax,.slice pa lx.length pc] 43)).alloc (.cells #[] 43)).drew from ((N.out.al _).al _).tr (Nb.drewN _ 1))
    have O1:=Lib.hid (show OwnIR ((wr.alloc (.cells #[.int .i64 nx,.int .i64 Kx,.int .u32 Ix,.bool Xx,.bool Rx,.bool Bx,.bool Ex,.bool Sx,.int .u8 Dx,.int .u8 Vx,.int .u32 Ax,.slice pa lx.length pc] 43)).alloc (.cells #[] 43)).drew (.slice (some ⟨wr.heap.size+1,0,none⟩) 0 0) [] from by
     have h:OwnIR ((wr.alloc (.cells #[.int .i64 nx,.int .i64 Kx,.int .u32 Ix,.bool Xx,.bool Rx,.bool Bx,.bool Ex,.bool Sx,.int .u8 Dx,.int .u8 Vx,.int .u32 Ax,.slice pa lx.length pc] 43)).alloc (.cells #[] 43)).drew _ []:=(OwnIR.lit0 (wr.alloc (.cells #[.int .i64 nx,.int .i64 Kx,.int .u32 Ix,.bool Xx,.bool Rx,.bool Bx,.bool Ex,.bool Sx,.int .u8 Dx,.int .u8 Vx,.int .u32 Ax,.slice pa lx.length pc] 43))).nb (Nb.drewN _ 1)
     rwa[World.size_alloc] at h)
    have R2:=Lib.hid (fun w' (h:Nb w w')=>(show w'.cell? ⟨m,2,none⟩=some (.slice (some ⟨b,of,none⟩) q.its.length c) from (HB.out.nb h).cell 2))
    have G2:=Lib.hid (fun w' (h:Nb w w')=>(HB.out.nb h).frozen 2)
    have C1:=Lib.hid (fun w' (h:Nb w w') ad (had:some (⟨b,of,none⟩:Addr)=some ad) j u (hu:(cellsI L1)[j]? = some u)=>(show w'.cell? (ad.add j)=some u from by
     have e:=c1 ad had j u hu
     rw[h.cell (World.block_lt_of_cell? _ _ e)]
     exact e))
    have C2:=Lib.hid (fun w' (h:Nb w w') ad (had:cutI (some (⟨b,of,none⟩:Addr)) c (k+1)=some ad) j u (hu:(cellsI L2)[j]? = some u)=>(show w'.cell? (ad.add j)=some u from by
     have e:=c2 ad had j u hu
     rw[h.cell (World.block_lt_of_cell? _ _ e)]
     exact e))
    have hl1:k=L1.length:=by
     have:=congrArg List.length m1
     rw[List.length_map,List.length_take] at this
     omega
    have hl2:q.its.length - (k+1)=L2.length:=by
     have:=congrArg List.length m2
     rw[List.length_map,List.length_drop] at this
     omega
    have LL:=Lib.hid (show k=L1.length/\q.its.length - (k+1)=L2.length from ⟨hl1,hl2⟩)
    have MM:=Lib.hid (show L1.map Prod.fst=q.its.take k/\L2.map Prod.fst=q.its.drop (k+1) from ⟨m1,m2⟩)
    have WW:=Lib.hid (show RowI w L1 P/\RowI w L2 P from ⟨w1',w2'⟩)
    have OO:=Lib.hid (show (∀ p∈L1,p.2.oneCell'=true)/\∀ p∈L2,p.2.oneCell'=true from ⟨o1,o2⟩)
    have hw1:IntKind.i64.wrap ((k:Int)+1)=(k:Int)+1:=by rw[IntWalk.i64_in _ (by omega)]
    have r2:=R2.out _ N1.out
    have r2a:=R2.out (wr.alloc (.cells #[.int .i64 nx,.int .i64 Kx,.int .u32 Ix,.bool Xx,.bool Rx,.bool Bx,.bool Ex,.bool Sx,.int .u8 Dx,.int .u8 Vx,.int .u32 Ax,.slice pa lx.length pc] 43)).drew ((N.out.al _).tr (Nb.drewN _ 1))
    have NS:=Lib.hid N.out.size
    clear c1 c2 w1' w2' o1 o2 m1 m2 hl1 hl2 hht hds hcl hx
    go_wp2_with fail
    go_region_law (first
     | (refine step_appIR _ rfl (.tmp 22) (.tmp 28) rfl (.slice (some ⟨wr.heap.size+1,0,none⟩) 0 0) [] (by simp[Act.eval,Act.put]) O1.out (some ⟨b,of,none⟩) k c L1 LL.out.1 (by simp[Act.eval,Act.put]) (fun h=>by cases h) (C1.out _ N1.out) OO.out.1 (by have:=LL.out.1;simp only[List.length_nil];omega) ?_
        intro v7 w7 ho hk7 hg
        have O7:=Lib.hid ho
        have N7:=Lib.hid (show Nb w w7 from N1.out.trans (hk7.toBelow N1.out.size (fun g hg=>by simp only[Value.ownBlock,Option.some.injEq] at hg;have:=NS.out;omega)))
        have G7:=Lib.hid (show ∀ g,v7.ownBlock=some g->w.heap.size<=g from fun g hh=>by
         rcases hg g hh with h | h
         ·simp only[Value.ownBlock,Option.some.injEq] at h
          have:=NS.out
          omega
         ·exact Nat.le_trans N1.out.size h)
        have r2:=R2.out _ N7.out
        clear ho hk7 hg)
     | (refine step_appIR _ rfl (.tmp 29) (.tmp 36) rfl v7 ([]++L1) (by simp[Act.eval,Act.put]) O7.out (cutI (some ⟨b,of,none⟩) c (k+1)) (q.its.length - (k+1)) (c - (k+1)) L2 LL.out.2 (by first | (simp[Act.eval,Act.put];done) | (simp[Act.eval,Act.put,cutI,Addr.add];done)) (fun h=>by unfold cutI at h;split at h<;>simp at h) (C2.out _ N7.out) OO.out.2 (by have:=LL.out;simp only[List.nil_append];omega) ?_
        intro v8 w8 ho hk8 hg
        obtain⟨L8,hL8⟩:∃ X,X=[]++L1++L2:=⟨_,rfl⟩
        rw[<- hL8] at ho
        obtain⟨a8,c8,rfl,_⟩:=ho.at
        have HL8:=Lib.hid hL8
        clear hL8
        have O8:=Lib.hid ho
        have N8:=Lib.hid (show Nb w w8 from N7.out.trans (hk8.toBelow N7.out.size G7.out))
        have G8:=Lib.hid (show ∀ g,Value.ownBlock _=some g->w.heap.size<=g from fun g hh=>by
         rcases hg g hh with h | h
         ·exact G7.out g h
         ·exact Nat.le_trans N7.out.size h)
        have r2:=R2.out _ N8.out
        have g2:=G2.out _ N8.out
        clear ho hk8 hg))
    all_goals
     have hb8:=(HB.out.nb N8.out).set 2 (.slice a8 L8.length c8)
     have k8:Kp (fun k=>k=m) w8 (w8.setCell ⟨m,2,none⟩ (.slice a8 L8.length c8)):=Kp.set (F:=fun k=>k=m) rfl
     have BB:=Lib.hid hb8
     have KK:=Lib.hid k8
     clear hb8 k8
     go_wp2
     go_ret
     generalize w8.setCell ⟨m,2,none⟩ (.slice a8 L8.length c8)=W9 at BB KK ⊢
     obtain⟨a9,c9,hv,hit⟩:=O8.out.its (X:=fun k=>P k\/(w.heap.size<=k/\k < w8.heap.size)) (RowI.up (X:=P) (by
      rw[HL8.out,List.nil_append]
      exact (WW.out.1.nb N8.out).app (WW.out.2.nb N8.out)) (fun k hk => .inl hk)) (fun g hg => .inr ⟨G8.out g hg,O8.out.lt hg⟩)
     simp only[Value.slice.injEq,true_and] at hv
     obtain⟨rfl,rfl⟩:=hv
     have hits:L8.map Prod.fst=(q.cancel ((nx:Nat):Int)).its:=by
      rw[HL8.out,List.nil_append,List.map_append,MM.out.1,MM.out.2]
      exact HDS.out.symm
     have hlen:L8.length=(q.cancel ((nx:Nat):Int)).its.length:=by rw[<- hits,List.length_map]
     rw[hits] at hit
     rw[hlen] at BB
     have hkw:Kp (fun k=>k=m) w W9:=(Kp.ofNb N8.out).tr KK.out (fun k hk => .inl hk)
     exact⟨by rw[HCE.out];rfl,fun k=>P k\/(w.heap.size<=k/\k < w8.heap.size),⟨_,_,BB.out,hit.keep KK.out (fun k hk e=>by
      subst e
      rcases hk with h | h
      ·exact HPM.out h
      ·omega),fun h=>by
      rcases h with h | h
      ·exact HPM.out h
      ·omega,fun k hk=>by
      rcases hk with h | h
      ·exact Nat.lt_of_lt_of_le (HPL.out k h) hkw.size
      ·exact Nat.lt_of_lt_of_le h.2 KK.out.size,own_none O8.out⟩,hkw,fun k hk=>by
      rcases hk with h | h
      ·exact .inl h
      ·exact .inr h.1⟩
   ·have de:(((nx:Nat):Int)==n)=false:=by rw[beq_eq_false_iff_ne];exact he
    rw[de,HNO.out] at hht
    have HH:=Lib.hid hht
    clear hht hds he hcl hx
    go_wp2
    go_roundw
    case rel=>exact⟨k+1,by omega,by go_num,N.out.al _,by rw[HH.out];rfl⟩
    case measure=>simp[intOf];omega
  ·have hlt':decide ((k:Int) < (q.its.length:Int))=false:=decide_eq_false (by omega)
   obtain rfl:k=q.its.length:=by omega
   have hno:=HNO.out
   rw[List.take_of_length_le (Nat.le_refl _)] at hno
   have HCE:=Lib.hid (show q.cancelE n=9 by unfold Qu.cancelE;rw[if_neg (by rw[hno];simp)])
   have HDE:=Lib.hid (show q.cancel n=q by
    unfold Qu.cancel
    have e:delI n q.its=q.its:=by
     unfold delI
     rw[List.filter_eq_self]
     intro z hz
     unfold hasI at hno
     have:=(List.any_eq_false.1 hno) z hz
     simpa using this
    rw[e])
   clear hno HNO
   go_wp2
   go_ret
   exact⟨by rw[HCE.out];rfl,P,by rw[HDE.out];exact HR.out.nb N.out,Kp.ofNb N.out,fun k hk => .inl hk⟩
end Go.Proofs.YtdedoeeekcfkpaaDoor
