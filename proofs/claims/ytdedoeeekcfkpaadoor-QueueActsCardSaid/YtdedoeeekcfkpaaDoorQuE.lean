
/- The document's queue of layer 14: one more. No conditions. -/
import Derived.Test.YtdedoeeekcfkpaaDoorQuG
import Derived.Test.YtdedoeeekcfkpaaDoorGj
import Derived.Test.YtdedoeeekcfkpaaDoorOrT
import Derived.BigRegion
set_option maxHeartbeats 8000000
set_option maxRecDepth 100000
namespace Go.Proofs.YtdedoeeekcfkpaaDoor
set_option linter.unusedVariables false
set_option linter.unusedSimpArgs false
open Go.RowKit
theorem byte_noR (x y:Int) (va:Option Addr) (vn vc o:Nat) {u:Value} (h:(#[.int .i64 x,.int .i64 y,.slice va vn vc]:Array Value)[o]? = some u):∀ b:Int,u ≠ .int .u8 b:=by
 intro b e
 subst e
 match o,h with
 | 0,h=>simp at h
 | 1,h=>simp at h
 | 2,h=>simp at h
 | n+3,h=>simp at h
theorem okF_smallR {f:Hd} {l:List Nat} (h:okF f l=true):l.length<=2048:=by
 have h1:hasF f.K (l.length:Int)=true:=by
  cases hq:hasF f.K (l.length:Int) with
  | true=>rfl
  | false=>simp[okF,hq] at h
 obtain⟨g1,g2⟩:=(hasF_iff _ _).1 h1
 have:=atF_lt _ _ g1
 omega
theorem Bs.none_len0 {w:World} {a:Option Addr} {cap:Nat} {l:List Nat} (h:Bs w a cap l) (e:a=none):l.length=0:=by
 by_cases h0:0 < l.length
 ·obtain⟨b,o,e',_⟩:=h.hcells h0
  rw[e] at e'
  cases e'
 ·omega
theorem Bs.apartR {w:World} {a va:Option Addr} {cap m vn vc:Nat} {x y:Int} {l:List Nat} {t:TypeId} (h:Bs w a cap l) (hb:Blk w m #[.int .i64 x,.int .i64 y,.slice va vn vc] t):∀ b o s,a=some ⟨b,o,s⟩->0 < l.length->b≠m:=fun b o s e h0 q=>by
 obtain⟨b',o',e',hc⟩:=h.hcells h0
 rw[e] at e'
 simp only[Option.some.injEq,Addr.mk.injEq] at e'
 obtain⟨rfl,rfl,rfl⟩:=e'
 have hc0:=hc 0 h0
 rw[q,hb.cell] at hc0
 exact byte_noR _ _ _ _ _ _ hc0 _ rfl
theorem fstD {es:List It} (L:List (It × Value)) (h:L.map Prod.fst=es) {j:Nat} (hj:j < L.length):(L.getD j dR).1=es.getD j dI:=by
 rw[<- h]
 simp[List.getD,hj]
theorem OwnB.datR {w:World} {a:Option Addr} {c:Nat} {l:List Nat} {X:Nat->Prop} (h:OwnB w (.slice a l.length c) l) (hX:∀ g,Value.ownBlock (.slice a l.length c)=some g->X g):DatP w a c l X:=by
 refine⟨h.asBs.1,fun b o t e hl => ?_⟩
 subst e
 obtain⟨b',c',hsh⟩:=h.shape (by omega)
 simp only[Value.slice.injEq,Option.some.injEq,Addr.mk.injEq,true_and] at hsh
 obtain⟨⟨rfl,rfl,rfl⟩,rfl⟩:=hsh
 exact⟨hX b rfl,fun i=>by rw[Nat.zero_add];exact h.frozen rfl i⟩
theorem xcell {T:TypeId} {w:World} {g j:Nat} {l:List (It × Value)} {x:It} {v u:Value} (h:RwI T w g l) (hj:j < l.length) (hp:l.getD j dR=(x,v)) (i:Nat) (hu:(itC x v)[i]? = some u):w.cell? ⟨g,j*12+i,none⟩=some u:=h.cell hj (by rw[hp];exact hu)
def midI (L:List (It × Value)) (k:Nat) (z:It × Value):List (It × Value):=L.take k++z::L.drop k
theorem midI_len (L:List (It × Value)) {k:Nat} (z:It × Value) (h:k<=L.length):(midI L k z).length=L.length+1:=by
 simp only[midI,List.length_append,List.length_take,List.length_cons,List.length_drop]
 omega
theorem midI_lo (L:List (It × Value)) {k j:Nat} (z:It × Value) (h:k<=L.length) (hj:j < k):(midI L k z).getD j dR=L.getD j dR:=by
 unfold midI
 simp only[List.getD]
 rw[List.getElem?_append_left (by rw[List.length_take];omega),List.getElem?_take_of_lt hj]
theorem midI_at (L:List (It × Value)) {k:Nat} (z:It × Value) (h:k<=L.length):(midI L k z).getD k dR=z:=by
 unfold midI
 simp only[List.getD]
 rw[List.getElem?_append_right (by rw[List.length_take];omega),List.length_take,Nat.min_eq_left h,Nat.sub_self]
 rfl
theorem midI_put (L:List (It × Value)) {k:Nat} (z x:It × Value) (h:k<=L.length):(midI L k z).set k x=midI L k x:=by
 unfold midI
 rw[List.set_append_right _ _ (by rw[List.length_take];omega),List.length_take,Nat.min_eq_left h,Nat.sub_self]
 rfl
theorem midI_up (L:List (It × Value)) {k:Nat} (z:It × Value) (h:k < L.length):(midI L (k+1) z).set (k+1) (L.getD k dR)=midI L k (L.getD k dR):=by
 rw[midI_put L z _ (by omega)]
 unfold midI
 have e:L.take (k+1)=L.take k++[L.getD k dR]:=by rw[List.take_add_one];simp[List.getD,h]
 have e2:L.drop k=L.getD k dR::L.drop (k+1):=by rw[List.drop_eq_getElem_cons h];simp[List.getD,h]
 rw[e,e2,List.append_assoc]
 rfl
theorem midI_end (L:List (It × Value)) (z:It × Value):midI L L.length z=L++[z]:=by simp[midI]
theorem putW_fin {w WW:World} {m g c8 k:Nat} {q:Qu} {P:Nat->Prop} {L1:List (It × Value)} {f:Hd} {l:List Nat} {a9:Option Addr} {c9:Nat} (hk:k<=L1.length) (hL:L1.length=q.its.length) (hM:L1.map Prod.fst=q.its)
    (hle:∀ j,j < k->keyF (L1.getD j dR).1.f<=keyF f) (hgt:∀ j,k<=j->j < L1.length->keyF f < keyF (L1.getD j dR).1.f) (hq:q.put f l=⟨q.room,q.last+1,insI ⟨q.last+1,f,l⟩ q.its⟩) (hE:((q.last+1:Nat):Int)=(q.last:Int)+1)
    (hp:RwI 43 WW g (midI L1 k ((⟨q.last+1,f,l⟩,.slice a9 l.length c9):It × Value))) (hrow:RowI WW (midI L1 k ((⟨q.last+1,f,l⟩,.slice a9 l.length c9):It × Value)) (fun k=>P k\/(w.heap.size<=k/\k < WW.heap.size)))
    (bm:Blk WW m #[.int .i64 (q.room:Nat),.int .i64 ((q.last:Int)+1),.slice (some ⟨g,0,none⟩) (q.its.length+1) c8] 32) (kw:Kp (fun k=>k=m) w WW) (hPm:¬P m) (hPl:∀ k,P k->k < w.heap.size) (hm:m < w.heap.size) (hg:w.heap.size < g) (h1:q.its.length+1<=c8) (h2:c8<=maxLen):TurnR w m (q.put f l) P WW:=by
 have hmap:(midI L1 k ((⟨q.last+1,f,l⟩,.slice a9 l.length c9):It × Value)).map Prod.fst=(q.put f l).its:=by
  rw[hq]
  show _=insI ⟨q.last+1,f,l⟩ q.its
  rw[insI_split (⟨q.last+1,f,l⟩:It) q.its k (by omega) (fun j hj => ?_) (fun hj => ?_)]
  ·simp only[midI,List.map_append,List.map_cons,List.map_take,List.map_drop,hM]
  ·have:=hle j hj
   rwa[<- fstD L1 hM (by omega)]
  ·have:=hgt k (Nat.le_refl _) (by omega)
   rwa[<- fstD L1 hM (by omega)]
 have hml:(midI L1 k ((⟨q.last+1,f,l⟩,.slice a9 l.length c9):It × Value)).length=q.its.length+1:=by rw[midI_len L1 _ hk,hL]
 have hit:=hp.its hrow (.inr ⟨by omega,hp.lt⟩) (by rw[hml];exact h1) h2
 rw[hmap] at hit
 have hl9:(q.put f l).its.length=q.its.length+1:=by rw[<- hmap,List.length_map,hml]
 have hns:w.heap.size<=WW.heap.size:=kw.size
 refine⟨fun k=>P k\/(w.heap.size<=k/\k < WW.heap.size),⟨some ⟨g,0,none⟩,c8,?_,hit,fun e=>e.elim hPm (fun e=>by omega),fun k e=>e.elim (fun h=>by have:=hPl k h;omega) (fun h=>h.2),fun e=>by cases e⟩,kw,fun k e=>e.imp id (fun h=>h.1)⟩
 rw[hl9]
 have:((q.put f l).room,(q.put f l).last)=(q.room,q.last+1):=by rw[hq]
 simp only[Prod.mk.injEq] at this
 rw[this.1,this.2,hE]
 exact bm
theorem refputQ_any (m:Nat) (q:Qu) (P:Nat->Prop) (f:Hd) (a:Option Addr) (cap:Nat) (l:List Nat) (w:World) (h:RQ w m q P) (hO:q.Ok) (h64:q.room<=64) (hW:∀ x∈q.its,WdX x.f) (hb:Bs w a cap l) (hn:a=none->cap=0) (hw:WdX f) (hq:q.last<=1000000) :
    Calls Tryd.prog 20 #[.pointer (some ⟨m,0,none⟩),.agg (f.cs (.slice a l.length cap))] w fun e w'=>e = .returned (.tuple #[.int .i64 (q.putN f l:Nat),.int .i64 (q.putE f l:Nat)])/\TurnR w m (q.put f l) P w':=by
 obtain⟨fK,fI,fX,fR,fB,fE,fS,fD,fV,fA⟩:=f
 have HR:=Lib.hid h
 obtain⟨va,vc,hbk,hi,hPm,hPl,hNo⟩:=h
 have hl64:q.its.length<=64:=Nat.le_trans hO.room h64
 have hLl:=hb.len
 have HCk:=Lib.hid (fun w'=>refcheck5_any ⟨fK,fI,fX,fR,fB,fE,fS,fD,fV,fA⟩ a cap l w' hb.len)
 obtain⟨y,hy⟩:∃ y,y=w.alloc (.cells #[(.int .i64 fK),(.int .u32 fI),(.bool fX),(.bool fR),(.bool fB),(.bool fE),(.bool fS),(.int .u8 fD),(.int .u8 fV),(.int .u32 fA),(.slice a l.length cap)] 36):=⟨_,rfl⟩
 have X0:=Lib.hid (show Blk y w.heap.size #[(.int .i64 fK),(.int .u32 fI),(.bool fX),(.bool fR),(.bool fB),(.bool fE),(.bool fS),(.int .u8 fD),(.int .u8 fV),(.int .u32 fA),(.slice a l.length cap)] 36 by rw[hy];exact Blk.new _ _ _)
 have NY:=Lib.hid (show Nb w y by rw[hy];exact Nb.rfl.al _)
 have HY:=Lib.hid hy
 have HB:=Lib.hid (fun w' (n:Nb w w')=>hbk.nb n)
 clear hy
 cases hok:okF ⟨fK,fI,fX,fR,fB,fE,fS,fD,fV,fA⟩ l with
 | false =>
   have e1:q.putE ⟨fK,fI,fX,fR,fB,fE,fS,fD,fV,fA⟩ l=2:=by unfold Qu.putE;rw[if_pos hok]
   have e2:q.putN ⟨fK,fI,fX,fR,fB,fE,fS,fD,fV,fA⟩ l=0:=by unfold Qu.putN;rw[if_neg (by rw[e1];omega)]
   have e3:q.put ⟨fK,fI,fX,fR,fB,fE,fS,fD,fV,fA⟩ l=q:=by unfold Qu.put;rw[if_neg (by rw[e1];omega)]
   rw[e1,e2,e3]
   unfold checkN at HCk
   rw[hok] at HCk
   simp only[Hd.cs,if_false,Bool.false_eq_true] at HCk ⊢
   clear e1 e2 e3 hok hO h64 hW hb hn hw hbk hi hPm hPl hNo
   go_enter Tryd.func20,Tryd.ntmps20
   go_wp2_with fail
   rw[<- HY.out]
   obtain⟨b0,b1,b2,b3,b4,b5,b6,b7,b8,b9,b10⟩:y.cell? ⟨w.heap.size,0,none⟩=some (.int .i64 fK)/\y.cell? ⟨w.heap.size,1,none⟩=some (.int .u32 fI)/\y.cell? ⟨w.heap.size,2,none⟩=some (.bool fX)/\y.cell? ⟨w.heap.size,3,none⟩=some (.bool fR)/\y.cell? ⟨w.heap.size,4,none⟩=some (.bool fB)/\y.cell? ⟨w.heap.size,5,none⟩=some (.bool fE)/\y.cell? ⟨w.heap.size,6,none⟩=some (.bool fS)/\y.cell? ⟨w.heap.size,7,none⟩=some (.int .u8 fD)/\y.cell? ⟨w.heap.size,8,none⟩=some (.int .u8 fV)/\y.cell? ⟨w.heap.size,9,none⟩=some (.int .u32 fA)/\y.cell? ⟨w.heap.size,10,none⟩=some (.slice a l.length cap):=⟨X0.out.cell 0,X0.out.cell 1,X0.out.cell 2,X0.out.cell 3,X0.out.cell 4,X0.out.cell 5,X0.out.cell 6,X0.out.cell 7,X0.out.cell 8,X0.out.cell 9,X0.out.cell 10⟩
   go_wp2_with fail
   refine (HCk.out _).mono ?_
   rintro e w1 ⟨rfl,n1⟩
   have N1:=Lib.hid (NY.out.tr n1)
   clear n1
   go_wp2
   go_ret2
   exact⟨rfl,P,HR.out.nb N1.out,Kp.ofNb N1.out,fun k e => .inl e⟩
 | true =>
   unfold checkN at HCk
   rw[hok] at HCk
   simp only[Hd.cs,if_true] at HCk
   have c0:∀ w',Nb w w'->w'.cell? ⟨m,0,none⟩=some (.int .i64 (q.room:Nat)):=fun w' n=>(HB.out w' n).cell 0
   have c2:∀ w',Nb w w'->w'.cell? ⟨m,2,none⟩=some (.slice va q.its.length vc):=fun w' n=>(HB.out w' n).cell 2
   have C0:=Lib.hid c0
   have C2:=Lib.hid c2
   clear c0 c2
   by_cases hfull:q.room<=q.its.length
   ·have e1:q.putE ⟨fK,fI,fX,fR,fB,fE,fS,fD,fV,fA⟩ l=8:=by unfold Qu.putE;rw[if_neg (by rw[hok];simp),if_pos hfull]
    have e2:q.putN ⟨fK,fI,fX,fR,fB,fE,fS,fD,fV,fA⟩ l=0:=by unfold Qu.putN;rw[if_neg (by rw[e1];omega)]
    have e3:q.put ⟨fK,fI,fX,fR,fB,fE,fS,fD,fV,fA⟩ l=q:=by unfold Qu.put;rw[if_neg (by rw[e1];omega)]
    rw[e1,e2,e3]
    simp only[Hd.cs]
    have d1:decide ((q.room:Int)<=(q.its.length:Int))=true:=decide_eq_true (by omega)
    have d2:decide (q.room<=q.its.length)=true:=decide_eq_true hfull
    clear e1 e2 e3 hok hO h64 hW hb hn hw hbk hi hPm hPl hNo hfull
    go_enter Tryd.func20,Tryd.ntmps20
    go_wp2_with fail
    rw[<- HY.out]
    obtain⟨b0,b1,b2,b3,b4,b5,b6,b7,b8,b9,b10⟩:y.cell? ⟨w.heap.size,0,none⟩=some (.int .i64 fK)/\y.cell? ⟨w.heap.size,1,none⟩=some (.int .u32 fI)/\y.cell? ⟨w.heap.size,2,none⟩=some (.bool fX)/\y.cell? ⟨w.heap.size,3,none⟩=some (.bool fR)/\y.cell? ⟨w.heap.size,4,none⟩=some (.bool fB)/\y.cell? ⟨w.heap.size,5,none⟩=some (.bool fE)/\y.cell? ⟨w.heap.size,6,none⟩=some (.bool fS)/\y.cell? ⟨w.heap.size,7,none⟩=some (.int .u8 fD)/\y.cell? ⟨w.heap.size,8,none⟩=some (.int .u8 fV)/\y.cell? ⟨w.heap.size,9,none⟩=some (.int .u32 fA)/\y.cell? ⟨w.heap.size,10,none⟩=some (.slice a l.length cap):=⟨X0.out.cell 0,X0.out.cell 1,X0.out.cell 2,X0.out.cell 3,X0.out.cell 4,X0.out.cell 5,X0.out.cell 6,X0.out.cell 7,X0.out.cell 8,X0.out.cell 9,X0.out.cell 10⟩
    go_wp2_with fail
    refine (HCk.out _).mono ?_
    rintro e w1 ⟨rfl,n1⟩
    have N1:=Lib.hid (NY.out.tr n1)
    clear n1
    have r0:=C0.out _ N1.out
    have r2:=C2.out _ N1.out
    go_wp2_with fail
    go_quiet (fail)
    rename_i nq
    have N2:=Lib.hid (N1.out.tr (Nb.drewN w1 nq))
    generalize w1.drewN nq=w2 at *
    go_wp2
    go_ret2
    exact⟨rfl,P,HR.out.nb N2.out,Kp.ofNb N2.out,fun k e => .inl e⟩
   ·have e1:q.putE ⟨fK,fI,fX,fR,fB,fE,fS,fD,fV,fA⟩ l=0:=by unfold Qu.putE;rw[if_neg (by rw[hok];simp),if_neg hfull]
    have e2:q.putN ⟨fK,fI,fX,fR,fB,fE,fS,fD,fV,fA⟩ l=q.last+1:=by unfold Qu.putN;rw[if_pos e1]
    have e3:=Lib.hid (Qu.put_go e1)
    have HQ:=Lib.hid hq
    rw[e1,e2]
    have E1:=Lib.hid (show ((q.last+1:Nat):Int)=(q.last:Int)+1 by omega)
    rw[E1.out]
    simp only[Hd.cs]
    have d1:decide ((q.room:Int)<=(q.its.length:Int))=false:=decide_eq_false (by omega)
    have d2:decide (q.room<=q.its.length)=false:=decide_eq_false hfull
    have HI:=Lib.hid hi
    have HBs:=Lib.hid hb
    have HNb:=Lib.hid (show a=none->l.length=0/\cap=0 from fun e=>⟨hb.none_len0 e,hn e⟩)
    have HAp:=Lib.hid (fun b o t (e:a=some ⟨b,o,t⟩) (h0:0 < l.length)=>hb.apartR hbk b o t e h0)
    have HSm:=Lib.hid (okF_smallR hok)
    have HK:=Lib.hid (show (q.Ok/\okF ⟨fK,fI,fX,fR,fB,fE,fS,fD,fV,fA⟩ l=true)/\(∀ x∈q.its,WdX x.f)/\WdX ⟨fK,fI,fX,fR,fB,fE,fS,fD,fV,fA⟩ from ⟨⟨hO,hok⟩,hW,hw⟩)
    have HPm:=Lib.hid hPm
    have HPl:=Lib.hid hPl
    have HNo:=Lib.hid (show va=none->q.its.length=0/\vc=0 from fun e=>⟨by
     by_cases h0:0 < q.its.length
     ·obtain⟨b,o,e',_⟩:=hi.hcells h0
      rw[e] at e'
      cases e'
     ·omega,hNo e⟩)
    have hm:=hbk.lt
    have h64':=Lib.hid hl64
    clear e1 e2 hok hO h64 hW hb hn hw hbk hi hPm hPl hNo hfull
    go_enter Tryd.func20,Tryd.ntmps20
    go_wp2_with fail
    rw[<- HY.out]
    obtain⟨b0,b1,b2,b3,b4,b5,b6,b7,b8,b9,b10⟩:y.cell? ⟨w.heap.size,0,none⟩=some (.int .i64 fK)/\y.cell? ⟨w.heap.size,1,none⟩=some (.int .u32 fI)/\y.cell? ⟨w.heap.size,2,none⟩=some (.bool fX)/\y.cell? ⟨w.heap.size,3,none⟩=some (.bool fR)/\y.cell? ⟨w.heap.size,4,none⟩=some (.bool fB)/\y.cell? ⟨w.heap.size,5,none⟩=some (.bool fE)/\y.cell? ⟨w.heap.size,6,none⟩=some (.bool fS)/\y.cell? ⟨w.heap.size,7,none⟩=some (.int .u8 fD)/\y.cell? ⟨w.heap.size,8,none⟩=some (.int .u8 fV)/\y.cell? ⟨w.heap.size,9,none⟩=some (.int .u32 fA)/\y.cell? ⟨w.heap.size,10,none⟩=some (.slice a l.length cap):=⟨X0.out.cell 0,X0.out.cell 1,X0.out.cell 2,X0.out.cell 3,X0.out.cell 4,X0.out.cell 5,X0.out.cell 6,X0.out.cell 7,X0.out.cell 8,X0.out.cell 9,X0.out.cell 10⟩
    go_wp2_with fail
    refine (HCk.out _).mono ?_
    rintro e w1 ⟨rfl,n1⟩
    have N1:=Lib.hid (NY.out.tr n1)
    have X1:=Lib.hid (X0.out.nb n1)
    clear n1 b0 b1 b2 b3 b4 b5 b6 b7 b8 b9 b10
    have r0:=C0.out _ N1.out
    have r2:=C2.out _ N1.out
    go_wp2_with fail
    go_quiet (fail)
    rename_i nq
    have N2:=Lib.hid (N1.out.tr (Nb.drewN w1 nq))
    have X2:=Lib.hid (X1.out.nb (Nb.drewN w1 nq))
    have B2:=Lib.hid (HB.out _ N2.out)
    generalize w1.drewN nq=w2 at *
    clear r0 r2
    have r1:w2.cell? ⟨m,1,none⟩=some (.int .i64 (q.last:Nat)):=B2.out.cell 1
    have f1:w2.frozen? ⟨m,1,none⟩=false:=B2.out.frozen 1
    have r2:w2.cell? ⟨m,2,none⟩=some (.slice va q.its.length vc):=B2.out.cell 2
    have f2:w2.frozen? ⟨m,2,none⟩=false:=B2.out.frozen 2
    have hm2:=B2.out.lt
    have KZ:=Lib.hid (show Kp (fun k=>k=m) w ((w2.setCell ⟨m,1,none⟩ (.int .i64 ((q.last:Int)+1))).alloc (.cells #[] 43)) from ((Kp.ofNb N2.out).tr (Kp.set (F:=fun k=>k=m) rfl) (fun k e => .inl e)).tr Kp.alloc (fun k e => .inl e))
    have BZ:=Lib.hid (show Blk ((w2.setCell ⟨m,1,none⟩ (.int .i64 ((q.last:Int)+1))).alloc (.cells #[] 43)) m #[.int .i64 (q.room:Nat),.int .i64 ((q.last:Int)+1),.slice va q.its.length vc] 32 from by
     have:=(B2.out.set 1 (.int .i64 ((q.last:Int)+1))).nb (Nb.rfl.al (.cells #[] 43))
     simpa using this)
    have hxm:w.heap.size≠m:=by omega
    have XZ:=Lib.hid (show Blk ((w2.setCell ⟨m,1,none⟩ (.int .i64 ((q.last:Int)+1))).alloc (.cells #[] 43)) w.heap.size #[(.int .i64 fK),(.int .u32 fI),(.bool fX),(.bool fR),(.bool fB),(.bool fE),(.bool fS),(.int .u8 fD),(.int .u8 fV),(.int .u32 fA),(.slice a l.length cap)] 36 from (X2.out.other (p:=⟨m,1,none⟩) hxm _).nb (Nb.rfl.al _))
    have hsz:(w2.setCell ⟨m,1,none⟩ (.int .i64 ((q.last:Int)+1))).heap.size=w2.heap.size:=by simp
    have hO0:=OwnIR.lit0 (w2.setCell ⟨m,1,none⟩ (.int .i64 ((q.last:Int)+1)))
    rw[hsz] at hO0
    have O0:=Lib.hid hO0
    have S2:=Lib.hid (show w.heap.size < w2.heap.size from X2.out.lt)
    obtain⟨L1,m1,cl1,rw1,o1⟩:=(HI.out.keep KZ.out (fun k h e=>HPm.out (e ▸ h))).rows
    have L1l:L1.length=q.its.length:=by rw[<- m1,List.length_map]
    have M1:=Lib.hid m1
    have R1:=Lib.hid rw1
    have O1:=Lib.hid o1
    have CL:=Lib.hid cl1
    have LL:=Lib.hid L1l
    clear m1 rw1 o1 cl1 L1l hsz hO0
    go_wp2_with (first
     | (at_builtin;refine wpList_appIR _ rfl (.tmp 35) (.tmp 39) rfl (.slice (some ⟨w2.heap.size,0,none⟩) 0 0) [] (by rfl) O0.out va q.its.length vc L1 LL.out.symm (by rfl) HNo.out CL.out O1.out (by have:=LL.out;have:=h64'.out;simp only[List.length_nil];omega) ?_
        intro v7 w7 ho7 hk7 hg7
        have O7:=Lib.hid ho7
        have K7:=Lib.hid hk7
        have G7:=Lib.hid hg7
        clear ho7 hk7 hg7)
     | (at_builtin;refine wpList_appIR_1 _ rfl (.tmp 40) (.tmp 42) rfl v7 ([]++L1) (by rfl) (O7.out.nb (Nb.rfl.al _)) w7.heap.size dI none 0 0 (by rfl) (fun j u hu=>by
          have b:=Blk.new w7 #[.int .i64 0,.int .i64 0,.int .u32 0,.bool false,.bool false,.bool false,.bool false,.bool false,.int .u8 0,.int .u8 0,.int .u32 0,.slice none 0 0] 43
          rw[b.cell j]
          simpa [itC,dI] using hu) (by have:=LL.out;have:=h64'.out;simp only[List.nil_append];omega) ?_
        intro v8 w8 ho8 hk8 hg8
        have hown7:∀ g,v7.ownBlock=some g->w2.heap.size<=g:=fun g e=>(G7.out g e).elim (fun h=>by simp only[Value.ownBlock,Option.some.injEq] at h;omega) (fun h=>by
         have:w2.heap.size<=((w2.setCell ⟨m,1,none⟩ (.int .i64 ((q.last:Int)+1))).alloc (.cells #[] 43)).heap.size:=by simp
         omega)
        have hk7:Kp (fun k=>w2.heap.size<=k) ((w2.setCell ⟨m,1,none⟩ (.int .i64 ((q.last:Int)+1))).alloc (.cells #[] 43)) w7:=K7.out.mono fun k _ e=>by simp only[Value.ownBlock,Option.some.injEq] at e;omega
        have hk78:Kp (fun k=>w2.heap.size<=k) ((w2.setCell ⟨m,1,none⟩ (.int .i64 ((q.last:Int)+1))).alloc (.cells #[] 43)) w8:=(hk7.tr Kp.alloc (fun k e => .inl e)).tr hk8 (fun k e => .inl (hown7 k e))
        have hb8:=BZ.out.keep hk78 (fun e=>by omega)
        have hx8:=XZ.out.keep hk78 (fun e=>by have:=S2.out;omega)
        have KK8:=Lib.hid (hk78.mono (F':=fun k=>k=m\/w.heap.size<=k) (fun k _ e => .inr (by have:=S2.out;omega)))
        obtain⟨L8,hL8⟩:∃ X,X=[]++L1++[((dI,.slice none 0 0):It × Value)]:=⟨_,rfl⟩
        rw[<- hL8] at ho8
        have hl8:L8.length=q.its.length+1:=by rw[hL8];simp[LL.out]
        obtain⟨g,c8,rfl,hg,hrw,hc1,hc2⟩:=ho8.rw (by omega)
        rw[hl8] at hg hc1 ⊢
        have RW8:=Lib.hid (show RwI 43 w8 g (midI L1 L1.length (dI,.slice none 0 0)) by rw[midI_end,<- List.nil_append L1,<- hL8];exact hrw)
        have G8:=Lib.hid (show w.heap.size < g by
         rcases hg8 g hg with h | h
         ·have:=hown7 g h;have:=S2.out;omega
         ·have h3:w2.heap.size<=(w7.alloc (.cells #[.int .i64 0,.int .i64 0,.int .u32 0,.bool false,.bool false,.bool false,.bool false,.bool false,.int .u8 0,.int .u8 0,.int .u32 0,.slice none 0 0] 43)).heap.size:=Nat.le_trans (by simp) (hk7.tr Kp.alloc (fun k e => .inl e)).size
          have:=S2.out;omega)
        have C8:=Lib.hid (show q.its.length+1<=c8/\c8<=maxLen from ⟨hc1,hc2⟩)
        have B8:=Lib.hid hb8
        have X8:=Lib.hid hx8
        have s2:w8.cell? ⟨m,2,none⟩=some (.slice va q.its.length vc):=hb8.cell 2
        have t2:w8.frozen? ⟨m,2,none⟩=false:=hb8.frozen 2
        have hm8:=hb8.lt
        clear ho8 hk8 hg8 hown7 hk7 hk78 hb8 hx8 hL8 hl8 hg hrw hc1 hc2))
    go_loopw [6] (fun v wr=>∃ (k:Nat) (z:It × Value),k<=L1.length/\v = .int .i64 k/\Blk wr m #[.int .i64 (q.room:Nat),.int .i64 ((q.last:Int)+1),.slice (some ⟨g,0,none⟩) (q.its.length+1) c8] 32/\Blk wr w.heap.size #[(.int .i64 fK),(.int .u32 fI),(.bool fX),(.bool fR),(.bool fB),(.bool fE),(.bool fS),(.int .u8 fD),(.int .u8 fV),(.int .u32 fA),(.slice a l.length cap)] 36/\RwI 43 wr g (midI L1 k z)/\Kp (fun k=>k=m\/w.heap.size<=k) ((w2.setCell ⟨m,1,none⟩ (.int .i64 ((q.last:Int)+1))).alloc (.cells #[] 43)) wr/\∀ j,k<=j->j < L1.length->keyF ⟨fK,fI,fX,fR,fB,fE,fS,fD,fV,fA⟩ < keyF (L1.getD j dR).1.f) (fun v _=>(intOf v).toNat)
    case atStart =>
     have hb9:=B8.out.set 2 (.slice (some ⟨g,0,none⟩) (q.its.length+1) c8)
     have k9:Kp (fun k=>k=m) w8 (w8.setCell ⟨m,2,none⟩ (.slice (some ⟨g,0,none⟩) (q.its.length+1) c8)):=Kp.set (F:=fun k=>k=m) rfl
     refine⟨L1.length,_,Nat.le_refl _,by rw[LL.out],by simpa using hb9,X8.out.keep k9 (fun e=>by omega),RW8.out.keep k9 (fun e=>by have:=G8.out;omega),KK8.out.tr k9 (fun k e => .inl (.inl e)),fun j h1 h2=>by omega⟩
    case round =>
     obtain⟨k,z,hk,rfl,bm,bx,rw',kz,hgt⟩:=hrel
     have BM:=Lib.hid bm
     have BX:=Lib.hid bx
     have RW:=Lib.hid rw'
     have KZr:=Lib.hid kz
     have GT:=Lib.hid hgt
     have KW:=Lib.hid (KZ.out.tr kz (fun k e=>e.imp id id))
     have r1:wr.cell? ⟨m,1,none⟩=some (.int .i64 ((q.last:Int)+1)):=bm.cell 1
     have r2:wr.cell? ⟨m,2,none⟩=some (.slice (some ⟨g,0,none⟩) (q.its.length+1) c8):=bm.cell 2
     obtain⟨b0,b1,b2,b3,b4,b5,b6,b7,b8,b9,b10⟩:wr.cell? ⟨w.heap.size,0,none⟩=some (.int .i64 fK)/\wr.cell? ⟨w.heap.size,1,none⟩=some (.int .u32 fI)/\wr.cell? ⟨w.heap.size,2,none⟩=some (.bool fX)/\wr.cell? ⟨w.heap.size,3,none⟩=some (.bool fR)/\wr.cell? ⟨w.heap.size,4,none⟩=some (.bool fB)/\wr.cell? ⟨w.heap.size,5,none⟩=some (.bool fE)/\wr.cell? ⟨w.heap.size,6,none⟩=some (.bool fS)/\wr.cell? ⟨w.heap.size,7,none⟩=some (.int .u8 fD)/\wr.cell? ⟨w.heap.size,8,none⟩=some (.int .u8 fV)/\wr.cell? ⟨w.heap.size,9,none⟩=some (.int .u32 fA)/\wr.cell? ⟨w.heap.size,10,none⟩=some (.slice a l.length cap):=⟨bx.cell 0,bx.cell 1,bx.cell 2,bx.cell 3,bx.cell 4,bx.cell 5,bx.cell 6,bx.cell 7,bx.cell 8,bx.cell 9,bx.cell 10⟩
     have u10:wr.frozen? ⟨w.heap.size,10,none⟩=false:=bx.frozen 10
     have hxs:=bx.lt
     have hms:=bm.lt
     clear bm bx rw' kz hgt
     rcases Nat.eq_zero_or_pos k with h0 | h0
     ·have d0:decide ((0:Int) < (k:Int))=false:=decide_eq_false (by omega)
      have d0':decide (0 < k)=false:=decide_eq_false (by omega)
      have BMt:=BM
      have BXt:=BX
      have RWt:=RW
      have KZt:=KZr
      have BSt:=Lib.hid (show Bs wr a cap l from HBs.out.keepKpZ (G:=fun k=>k=m) KW.out (fun b o t e h0=>HAp.out b o t e h0))
      have HLE:=Lib.hid (show ∀ j,j < k->keyF (L1.getD j dR).1.f<=keyF ⟨fK,fI,fX,fR,fB,fE,fS,fD,fV,fA⟩ from fun j hj=>by omega)
      clear BM BX RW KZr h0
      go_wp2_with (at_builtin;refine wpList_appB _ rfl (.tmp 80) (.tmp 82) rfl (.slice (some ⟨wr.heap.size,0,none⟩) 0 0) [] (by rfl) (OwnB.fresh0 wr) a cap l l.length rfl (by rfl) (BSt.out.below (Nb.rfl.al _)) HNb.out (by have:=HSm.out;simp only[List.length_nil];omega) ?_;intro v9 w9 ho9 hk9 hg9;have O9:=Lib.hid (show OwnB w9 v9 l by simpa using ho9);have K9:=Lib.hid (show Kp (fun k=>wr.heap.size<=k) wr w9 from (Kp.ofNb (Nb.rfl.al _)).tr hk9 (fun k e => .inr (by simp only[Value.ownBlock,Option.some.injEq] at e;omega)));have G9:=Lib.hid (show ∀ g,v9.ownBlock=some g->wr.heap.size<=g from fun g e=>(hg9 g e).elim (fun h=>by simp only[Value.ownBlock,Option.some.injEq] at h;omega) (fun h=>Nat.le_trans (Nb.rfl.al _:Nb wr _).size h));clear ho9 hk9 hg9;obtain⟨a9,c9,rfl,_⟩:=O9.out.bs;have X9:=Lib.hid (BXt.out.keep K9.out (fun e=>by have:=BXt.out.lt;omega));have x10:w9.cell? ⟨w.heap.size,10,none⟩=some (.slice a l.length cap):=X9.out.cell 10;have y10:w9.frozen? ⟨w.heap.size,10,none⟩=false:=X9.out.frozen 10;have hx9:=X9.out.lt)
      obtain⟨u,hu⟩:∃ u,u=w9.setCell ⟨w.heap.size,10,none⟩ (.slice a9 l.length c9):=⟨_,rfl⟩
      have ku:Kp (fun k=>k=w.heap.size) w9 u:=by rw[hu];exact Kp.set (F:=fun k=>k=w.heap.size) rfl
      have XU:=Lib.hid (show Blk u w.heap.size #[(.int .i64 fK),(.int .u32 fI),(.bool fX),(.bool fR),(.bool fB),(.bool fE),(.bool fS),(.int .u8 fD),(.int .u8 fV),(.int .u32 fA),(.slice a9 l.length c9)] 36 by
       rw[hu]
       have:=X9.out.set 10 (.slice a9 l.length c9)
       simpa using this)
      have BU:=Lib.hid ((BMt.out.keep K9.out (fun e=>by have:=BMt.out.lt;omega)).keep ku (fun e=>by omega))
      have RU:=Lib.hid ((RWt.out.keep K9.out (fun e=>by have:=RWt.out.lt;omega)).keep ku (fun e=>by have:=G8.out;omega))
      have OU:=Lib.hid (O9.out.keep ku (fun g' e q=>by have:=G9.out g' e;have:=BXt.out.lt;omega))
      have KU:=Lib.hid ((KZt.out.tr (K9.out.mono (F':=fun k=>k=m\/w.heap.size<=k) (fun k _ e => .inr (by have:=BXt.out.lt;omega))) (fun k e => .inl e)).tr ku (fun k e => .inl (.inr (by omega))))
      have GU:=Lib.hid (show ∀ g',Value.ownBlock (.slice a9 l.length c9)=some g'->w.heap.size < g'/\g'≠g from fun g' e=>⟨by have:=G9.out g' e;have:=BXt.out.lt;omega,fun q=>by have:=G9.out g' e;have:=RWt.out.lt;omega⟩)
      have HU:=Lib.hid hu
      rw[<- HU.out]
      clear hu ku x10 y10 hx9
      clear b0 b1 b2 b3 b4 b5 b6 b7 b8 b9 b10 r1 r2 u10
      have r1:u.cell? ⟨m,1,none⟩=some (.int .i64 ((q.last:Int)+1)):=BU.out.cell 1
      have r2:u.cell? ⟨m,2,none⟩=some (.slice (some ⟨g,0,none⟩) (q.its.length+1) c8):=BU.out.cell 2
      obtain⟨b0,b1,b2,b3,b4,b5,b6,b7,b8,b9,b10⟩:u.cell? ⟨w.heap.size,0,none⟩=some (.int .i64 fK)/\u.cell? ⟨w.heap.size,1,none⟩=some (.int .u32 fI)/\u.cell? ⟨w.heap.size,2,none⟩=some (.bool fX)/\u.cell? ⟨w.heap.size,3,none⟩=some (.bool fR)/\u.cell? ⟨w.heap.size,4,none⟩=some (.bool fB)/\u.cell? ⟨w.heap.size,5,none⟩=some (.bool fE)/\u.cell? ⟨w.heap.size,6,none⟩=some (.bool fS)/\u.cell? ⟨w.heap.size,7,none⟩=some (.int .u8 fD)/\u.cell? ⟨w.heap.size,8,none⟩=some (.int .u8 fV)/\u.cell? ⟨w.heap.size,9,none⟩=some (.int .u32 fA)/\u.cell? ⟨w.heap.size,10,none⟩=some (.slice a9 l.length c9):=⟨XU.out.cell 0,XU.out.cell 1,XU.out.cell 2,XU.out.cell 3,XU.out.cell 4,XU.out.cell 5,XU.out.cell 6,XU.out.cell 7,XU.out.cell 8,XU.out.cell 9,XU.out.cell 10⟩
      have hki:(k:Int) < (q.its.length:Int)+1:=by have:=LL.out;omega
      have hzl:k < (midI L1 (k) z).length:=by rw[midI_len L1 z (by omega)];omega
      have hth:=RU.out.there hzl
      obtain⟨⟨g0,h0⟩,⟨g1,h1⟩,⟨g2,h2⟩,⟨g3,h3⟩,⟨g4,h4⟩,⟨g5,h5⟩,⟨g6,h6⟩,⟨g7,h7⟩,⟨g8,h8⟩,⟨g9,h9⟩,⟨g10,h10⟩,⟨g11,h11⟩⟩:((u.cell? ⟨g,(k)*12+0,none⟩).isSome=true/\u.frozen? ⟨g,(k)*12+0,none⟩=false)/\((u.cell? ⟨g,(k)*12+1,none⟩).isSome=true/\u.frozen? ⟨g,(k)*12+1,none⟩=false)/\((u.cell? ⟨g,(k)*12+2,none⟩).isSome=true/\u.frozen? ⟨g,(k)*12+2,none⟩=false)/\((u.cell? ⟨g,(k)*12+3,none⟩).isSome=true/\u.frozen? ⟨g,(k)*12+3,none⟩=false)/\((u.cell? ⟨g,(k)*12+4,none⟩).isSome=true/\u.frozen? ⟨g,(k)*12+4,none⟩=false)/\((u.cell? ⟨g,(k)*12+5,none⟩).isSome=true/\u.frozen? ⟨g,(k)*12+5,none⟩=false)/\((u.cell? ⟨g,(k)*12+6,none⟩).isSome=true/\u.frozen? ⟨g,(k)*12+6,none⟩=false)/\((u.cell? ⟨g,(k)*12+7,none⟩).isSome=true/\u.frozen? ⟨g,(k)*12+7,none⟩=false)/\((u.cell? ⟨g,(k)*12+8,none⟩).isSome=true/\u.frozen? ⟨g,(k)*12+8,none⟩=false)/\((u.cell? ⟨g,(k)*12+9,none⟩).isSome=true/\u.frozen? ⟨g,(k)*12+9,none⟩=false)/\((u.cell? ⟨g,(k)*12+10,none⟩).isSome=true/\u.frozen? ⟨g,(k)*12+10,none⟩=false)/\((u.cell? ⟨g,(k)*12+11,none⟩).isSome=true/\u.frozen? ⟨g,(k)*12+11,none⟩=false):=⟨hth 0 (by omega),hth 1 (by omega),hth 2 (by omega),hth 3 (by omega),hth 4 (by omega),hth 5 (by omega),hth 6 (by omega),hth 7 (by omega),hth 8 (by omega),hth 9 (by omega),hth 10 (by omega),hth 11 (by omega)⟩
      obtain⟨z0,g0⟩:=Option.isSome_iff_exists.1 g0
      obtain⟨z1,g1⟩:=Option.isSome_iff_exists.1 g1
      obtain⟨z2,g2⟩:=Option.isSome_iff_exists.1 g2
      obtain⟨z3,g3⟩:=Option.isSome_iff_exists.1 g3
      obtain⟨z4,g4⟩:=Option.isSome_iff_exists.1 g4
      obtain⟨z5,g5⟩:=Option.isSome_iff_exists.1 g5
      obtain⟨z6,g6⟩:=Option.isSome_iff_exists.1 g6
      obtain⟨z7,g7⟩:=Option.isSome_iff_exists.1 g7
      obtain⟨z8,g8⟩:=Option.isSome_iff_exists.1 g8
      obtain⟨z9,g9⟩:=Option.isSome_iff_exists.1 g9
      obtain⟨z10,g10⟩:=Option.isSome_iff_exists.1 g10
      obtain⟨z11,g11⟩:=Option.isSome_iff_exists.1 g11
      rw[Nat.add_zero] at g0 h0
      have eI:itC (⟨q.last+1,⟨fK,fI,fX,fR,fB,fE,fS,fD,fV,fA⟩,l⟩:It) (.slice a9 l.length c9)=[(.int .i64 ((q.last:Int)+1)),(.int .i64 fK),(.int .u32 fI),(.bool fX),(.bool fR),(.bool fB),(.bool fE),(.bool fS),(.int .u8 fD),(.int .u8 fV),(.int .u32 fA),(.slice a9 l.length c9)]:=by simp only[itC];rw[E1.out]
      have hput:=RU.out.put hzl (⟨q.last+1,⟨fK,fI,fX,fR,fB,fE,fS,fD,fV,fA⟩,l⟩:It) (.slice a9 l.length c9)
      rw[eI,midI_put L1 z _ (by omega)] at hput
      obtain⟨WW,hWW⟩:∃ WW,WW=((u.setCells g ((k)*12) [(.int .i64 ((q.last:Int)+1)),(.int .i64 fK),(.int .u32 fI),(.bool fX),(.bool fR),(.bool fB),(.bool fE),(.bool fS),(.int .u8 fD),(.int .u8 fV),(.int .u32 fA),(.slice a9 l.length c9)]).drew):=⟨_,rfl⟩
      have RP:=Lib.hid (show RwI 43 WW g (midI L1 (k) ((⟨q.last+1,⟨fK,fI,fX,fR,fB,fE,fS,fD,fV,fA⟩,l⟩,.slice a9 l.length c9):It × Value)) by rw[hWW];exact hput.nb (Below.drew (Below.refl _ _)))
      have KP:=Lib.hid (show Kp (fun k=>k=g) u WW by rw[hWW];exact (Kp.sets (F:=fun k=>k=g) rfl [(.int .i64 ((q.last:Int)+1)),(.int .i64 fK),(.int .u32 fI),(.bool fX),(.bool fR),(.bool fB),(.bool fE),(.bool fS),(.int .u8 fD),(.int .u8 fV),(.int .u32 fA),(.slice a9 l.length c9)] ((k)*12) u).tr (Kp.ofNb (F:=fun _=>False) (Below.drew (Below.refl _ _))) (fun _ e=>e.elim))
      have HWW:=Lib.hid hWW
      clear hput eI hWW hth
      have FIN:=Lib.hid (show TurnR w m (q.put ⟨fK,fI,fX,fR,fB,fE,fS,fD,fV,fA⟩ l) P WW from by
       have hp2:=RP.out
       have kp:=KP.out
       have g8:=G8.out
       have lx:=BXt.out.lt
       have kw:Kp (fun k=>k=m) w WW:=(KZ.out.tr (KU.out.mono (F':=fun k=>k=m\/w.heap.size<=k) (fun _ _ e=>e)) (fun k e=>e)).tr kp (fun k e => .inr (by subst e;exact Nat.le_of_lt g8))
       have bm:=BU.out.keep kp (fun e=>by subst e;exact absurd hm (by omega))
       have hns:w.heap.size<=WW.heap.size:=kw.size
       have hr1:RowI WW L1 (fun k=>P k\/(w.heap.size<=k/\k < WW.heap.size)):=(((R1.out.keep KU.out (fun k h e=>e.elim (fun e=>HPm.out (e ▸ h)) (fun e=>Nat.lt_irrefl _ (Nat.lt_of_lt_of_le (HPl.out k h) e)))).keep kp (fun k h e=>by subst e;exact Nat.lt_irrefl _ (Nat.lt_trans (HPl.out _ h) g8)))).up (fun k h => .inl h)
       have o9:=OU.out.keep kp (fun g' e q=>(GU.out g' e).2 q)
       have hr2:DatP WW a9 c9 l (fun k=>P k\/(w.heap.size<=k/\k < WW.heap.size)):=OwnB.datR o9 (fun g' e => .inr ⟨Nat.le_of_lt (GU.out g' e).1,o9.lt e⟩)
       have hrow:RowI WW (midI L1 (k) ((⟨q.last+1,⟨fK,fI,fX,fR,fB,fE,fS,fD,fV,fA⟩,l⟩,.slice a9 l.length c9):It × Value)) (fun k=>P k\/(w.heap.size<=k/\k < WW.heap.size)):=fun p hp=>by
        rcases List.mem_append.1 hp with hp | hp
        ·exact hr1 p (List.mem_of_mem_take hp)
        ·rcases List.mem_cons.1 hp with rfl | hp
         ·exact⟨a9,c9,rfl,hr2⟩
         ·exact hr1 p (List.mem_of_mem_drop hp)
       exact putW_fin (k:=k) (by omega) LL.out M1.out HLE.out GT.out e3.out E1.out hp2 hrow bm kw HPm.out (fun k h=>HPl.out k h) hm g8 C8.out.1 C8.out.2)
      have FI2:=Lib.hid (show TurnR w m (q.put ⟨fK,fI,fX,fR,fB,fE,fS,fD,fV,fA⟩ l) P ((u.setCells g ((k)*12) [(.int .i64 ((q.last:Int)+1)),(.int .i64 fK),(.int .u32 fI),(.bool fX),(.bool fR),(.bool fB),(.bool fE),(.bool fS),(.int .u8 fD),(.int .u8 fV),(.int .u32 fA),(.slice a9 l.length c9)]).drew) by rw[<- HWW.out];exact FIN.out)
      clear FIN
      have hgm:¬g=m:=by have:=G8.out;omega
      have hmg:¬m=g:=fun e=>hgm e.symm
      go_wp2_with fail
      go_region
      go_wp2
      go_ret2
      exact⟨rfl,FI2.out⟩
     ·obtain⟨j,hkj⟩:∃ j,k=j+1:=⟨k - 1,by omega⟩
      have HKJ:=Lib.hid hkj
      have Ek:(k:Int) - 1=(j:Int):=by omega
      have hjl:j < L1.length:=by omega
      obtain⟨p,hp⟩:∃ p,L1.getD j dR=p:=⟨_,rfl⟩
      have hpm:p∈L1:=by
       rw[<- hp,show L1.getD j dR=L1[j] by simp[List.getD,hjl]]
       exact List.getElem_mem hjl
      have hpi:p.1∈q.its:=by rw[<- M1.out];exact List.mem_map_of_mem hpm
      obtain⟨xa,xm,ev,dd⟩:=R1.out p hpm
      have BSt0:=Lib.hid (show Bs wr a cap l from HBs.out.keepKpZ (G:=fun k=>k=m) KW.out (fun b o t e h0=>HAp.out b o t e h0))
      have ddw:=Lib.hid (dd.keep KZr.out (fun k h e=>e.elim (fun e=>HPm.out (e ▸ h)) (fun e=>by have:=HPl.out k h;omega)))
      have ok1:=HK.out.1.1.ok _ hpi
      have wd1:=HK.out.2.1 _ hpi
      have HCm:=Lib.hid (fun w' (n:Nb wr w')=>refcompare10_any p.1.f ⟨fK,fI,fX,fR,fB,fE,fS,fD,fV,fA⟩ xa a xm cap p.1.l l w' (ddw.out.1.below n) (BSt0.out.below n) wd1.1 HK.out.2.2.1)
      unfold AnsC cmpV cmpE at HCm
      rw[ok1,HK.out.1.2] at HCm
      simp only[Bool.and_self,if_true] at HCm
      have hjm:j < (midI L1 k z).length:=by rw[midI_len L1 z (by omega)];omega
      have hcell:=fun i u (hu:(itC p.1 p.2)[i]? = some u)=>RW.out.cell hjm (i:=i) (u:=u) (by rw[midI_lo L1 z (by omega) (by omega),hp];exact hu)
      have HPp:=Lib.hid hp
      have hkp:(L1.getD j dR).1.f=p.1.f:=by rw[hp]
      obtain⟨⟨xn,⟨xK,xI,xX,xR,xB,xE,xS,xD,xV,xA⟩,xl⟩,xv⟩:=p
      simp only at ev
      subst ev
      simp only[Hd.cs] at HCm
      obtain⟨a0,a1,a2,a3,a4,a5,a6,a7,a8,a9,a10,a11⟩:wr.cell? ⟨g,j*12,none⟩=some (.int .i64 ((xn:Nat):Int))/\wr.cell? ⟨g,j*12+1,none⟩=some (.int .i64 xK)/\wr.cell? ⟨g,j*12+2,none⟩=some (.int .u32 xI)/\wr.cell? ⟨g,j*12+3,none⟩=some (.bool xX)/\wr.cell? ⟨g,j*12+4,none⟩=some (.bool xR)/\wr.cell? ⟨g,j*12+5,none⟩=some (.bool xB)/\wr.cell? ⟨g,j*12+6,none⟩=some (.bool xE)/\wr.cell? ⟨g,j*12+7,none⟩=some (.bool xS)/\wr.cell? ⟨g,j*12+8,none⟩=some (.int .u8 xD)/\wr.cell? ⟨g,j*12+9,none⟩=some (.int .u8 xV)/\wr.cell? ⟨g,j*12+10,none⟩=some (.int .u32 xA)/\wr.cell? ⟨g,j*12+11,none⟩=some (.slice xa xl.length xm):=⟨hcell 0 _ rfl,hcell 1 _ rfl,hcell 2 _ rfl,hcell 3 _ rfl,hcell 4 _ rfl,hcell 5 _ rfl,hcell 6 _ rfl,hcell 7 _ rfl,hcell 8 _ rfl,hcell 9 _ rfl,hcell 10 _ rfl,hcell 11 _ rfl⟩
      have CE:=Lib.hid (show ∀ w',Nb wr w'->w'.cell? ⟨m,2,none⟩=some (.slice (some ⟨g,0,none⟩) (q.its.length+1) c8)/\(w'.cell? ⟨g,j*12,none⟩=some (.int .i64 ((xn:Nat):Int))/\w'.cell? ⟨g,j*12+1,none⟩=some (.int .i64 xK)/\w'.cell? ⟨g,j*12+2,none⟩=some (.int .u32 xI)/\w'.cell? ⟨g,j*12+3,none⟩=some (.bool xX)/\w'.cell? ⟨g,j*12+4,none⟩=some (.bool xR)/\w'.cell? ⟨g,j*12+5,none⟩=some (.bool xB)/\w'.cell? ⟨g,j*12+6,none⟩=some (.bool xE)/\w'.cell? ⟨g,j*12+7,none⟩=some (.bool xS)/\w'.cell? ⟨g,j*12+8,none⟩=some (.int .u8 xD)/\w'.cell? ⟨g,j*12+9,none⟩=some (.int .u8 xV)/\w'.cell? ⟨g,j*12+10,none⟩=some (.int .u32 xA)/\w'.cell? ⟨g,j*12+11,none⟩=some (.slice xa xl.length xm))/\w'.cell? ⟨w.heap.size,0,none⟩=some (.int .i64 fK)/\w'.cell? ⟨w.heap.size,1,none⟩=some (.int .u32 fI)/\w'.cell? ⟨w.heap.size,2,none⟩=some (.bool fX)/\w'.cell? ⟨w.heap.size,3,none⟩=some (.bool fR)/\w'.cell? ⟨w.heap.size,4,none⟩=some (.bool fB)/\w'.cell? ⟨w.heap.size,5,none⟩=some (.bool fE)/\w'.cell? ⟨w.heap.size,6,none⟩=some (.bool fS)/\w'.cell? ⟨w.heap.size,7,none⟩=some (.int .u8 fD)/\w'.cell? ⟨w.heap.size,8,none⟩=some (.int .u8 fV)/\w'.cell? ⟨w.heap.size,9,none⟩=some (.int .u32 fA)/\w'.cell? ⟨w.heap.size,10,none⟩=some (.slice a l.length cap) from fun w' n=>⟨(BM.out.nb n).cell 2,⟨xcell (RW.out.nb n) hjm (by rw[midI_lo L1 z (by omega) (by have:=HKJ.out;omega),HPp.out]) 0 rfl,xcell (RW.out.nb n) hjm (by rw[midI_lo L1 z (by omega) (by have:=HKJ.out;omega),HPp.out]) 1 rfl,xcell (RW.out.nb n) hjm (by rw[midI_lo L1 z (by omega) (by have:=HKJ.out;omega),HPp.out]) 2 rfl,xcell (RW.out.nb n) hjm (by rw[midI_lo L1 z (by omega) (by have:=HKJ.out;omega),HPp.out]) 3 rfl,xcell (RW.out.nb n) hjm (by rw[midI_lo L1 z (by omega) (by have:=HKJ.out;omega),HPp.out]) 4 rfl,xcell (RW.out.nb n) hjm (by rw[midI_lo L1 z (by omega) (by have:=HKJ.out;omega),HPp.out]) 5 rfl,xcell (RW.out.nb n) hjm (by rw[midI_lo L1 z (by omega) (by have:=HKJ.out;omega),HPp.out]) 6 rfl,xcell (RW.out.nb n) hjm (by rw[midI_lo L1 z (by omega) (by have:=HKJ.out;omega),HPp.out]) 7 rfl,xcell (RW.out.nb n) hjm (by rw[midI_lo L1 z (by omega) (by have:=HKJ.out;omega),HPp.out]) 8 rfl,xcell (RW.out.nb n) hjm (by rw[midI_lo L1 z (by omega) (by have:=HKJ.out;omega),HPp.out]) 9 rfl,xcell (RW.out.nb n) hjm (by rw[midI_lo L1 z (by omega) (by have:=HKJ.out;omega),HPp.out]) 10 rfl,xcell (RW.out.nb n) hjm (by rw[midI_lo L1 z (by omega) (by have:=HKJ.out;omega),HPp.out]) 11 rfl⟩,(BX.out.nb n).cell 0,(BX.out.nb n).cell 1,(BX.out.nb n).cell 2,(BX.out.nb n).cell 3,(BX.out.nb n).cell 4,(BX.out.nb n).cell 5,(BX.out.nb n).cell 6,(BX.out.nb n).cell 7,(BX.out.nb n).cell 8,(BX.out.nb n).cell 9,(BX.out.nb n).cell 10⟩)
      have NB:=Lib.hid (show Nb wr wr.drew from Below.drew (Below.refl _ _))
      have hjk:(j:Int) < (q.its.length:Int)+1:=by have:=LL.out;omega
      have hj64:j < 64:=by have:=LL.out;omega
      have HJW:=Lib.hid (show IntKind.i64.wrap ((k:Int) - 1)=(j:Int) from by rw[Ek,IntWalk.i64_in _ (by omega)])
      have HJV:=Lib.hid (show IntKind.i64.wrap (j:Int)=(j:Int) from by rw[IntWalk.i64_in _ (by omega)])
      have HEK:=Lib.hid Ek
      clear Ek
      have hjk1:(k:Int) < (q.its.length:Int)+1:=by have:=LL.out;omega
      have hkx:(L1.getD j dR).1.f=⟨xK,xI,xX,xR,xB,xE,xS,xD,xV,xA⟩:=hkp
      obtain⟨kx,hkx2⟩:∃ kx,kx=keyF ⟨xK,xI,xX,xR,xB,xE,xS,xD,xV,xA⟩:=⟨_,rfl⟩
      have HKX:=Lib.hid hkx2
      obtain⟨kf,hkf⟩:∃ kf,kf=keyF ⟨fK,fI,fX,fR,fB,fE,fS,fD,fV,fA⟩:=⟨_,rfl⟩
      have HKF:=Lib.hid hkf
      have HKL:=Lib.hid (show keyF (L1.getD j dR).1.f=kx by rw[hkx,hkx2])
      rw[<- hkx2,<- hkf] at HCm
      obtain⟨rv,hrv⟩:∃ rv,rv=cmpN kx kf:=⟨_,rfl⟩
      rw[<- hrv] at HCm
      have d0:decide ((0:Int) < (k:Int))=true:=decide_eq_true (by omega)
      have d0':decide (0 < k)=true:=decide_eq_true (by omega)
      have hk64:k<=64:=by have:=LL.out;omega
      clear hkj hcell hkp hkx hkx2 hkf ok1 wd1 hpm hpi dd ddw hp
      by_cases hle:kx<=kf
      ·have hr0:rv<=0:=by rw[hrv];unfold cmpN;split;omega;split<;>omega
       have d3:decide (rv<=0)=true:=decide_eq_true hr0
       have HLe:=Lib.hid hle
       clear hrv hle
       have hj0:(0:Int)<=(j:Int):=by omega
       have hjn:j<=q.its.length:=by omega
       have hjn1:j < q.its.length+1:=by omega
       have hjw:=HJW.out
       have hjv:=HJV.out
       go_wp2_with fail
       go_region_held3 (fun w'=>w'.cell? ⟨m,2,none⟩=some (.slice (some ⟨g,0,none⟩) (q.its.length+1) c8)/\(w'.cell? ⟨g,j*12,none⟩=some (.int .i64 ((xn:Nat):Int))/\w'.cell? ⟨g,j*12+1,none⟩=some (.int .i64 xK)/\w'.cell? ⟨g,j*12+2,none⟩=some (.int .u32 xI)/\w'.cell? ⟨g,j*12+3,none⟩=some (.bool xX)/\w'.cell? ⟨g,j*12+4,none⟩=some (.bool xR)/\w'.cell? ⟨g,j*12+5,none⟩=some (.bool xB)/\w'.cell? ⟨g,j*12+6,none⟩=some (.bool xE)/\w'.cell? ⟨g,j*12+7,none⟩=some (.bool xS)/\w'.cell? ⟨g,j*12+8,none⟩=some (.int .u8 xD)/\w'.cell? ⟨g,j*12+9,none⟩=some (.int .u8 xV)/\w'.cell? ⟨g,j*12+10,none⟩=some (.int .u32 xA)/\w'.cell? ⟨g,j*12+11,none⟩=some (.slice xa xl.length xm))/\w'.cell? ⟨w.heap.size,0,none⟩=some (.int .i64 fK)/\w'.cell? ⟨w.heap.size,1,none⟩=some (.int .u32 fI)/\w'.cell? ⟨w.heap.size,2,none⟩=some (.bool fX)/\w'.cell? ⟨w.heap.size,3,none⟩=some (.bool fR)/\w'.cell? ⟨w.heap.size,4,none⟩=some (.bool fB)/\w'.cell? ⟨w.heap.size,5,none⟩=some (.bool fE)/\w'.cell? ⟨w.heap.size,6,none⟩=some (.bool fS)/\w'.cell? ⟨w.heap.size,7,none⟩=some (.int .u8 fD)/\w'.cell? ⟨w.heap.size,8,none⟩=some (.int .u8 fV)/\w'.cell? ⟨w.heap.size,9,none⟩=some (.int .u32 fA)/\w'.cell? ⟨w.heap.size,10,none⟩=some (.slice a l.length cap)) (first | go_keep | exact CE.out _ NB.out) ((go_at_call 42;refine (HCm.out _ NB.out).mono ?_;rintro e w7 ⟨rfl,n7⟩;have NB:=Lib.hid (NB.out.tr n7);clear n7))
       clear hjw hjv hjn hjn1 hj0
       have Ek:=HEK.out
       have BMt:=Lib.hid (BM.out.nb NB.out)
       have BXt:=Lib.hid (BX.out.nb NB.out)
       have RWt:=Lib.hid (RW.out.nb NB.out)
       have KZt:=Lib.hid (KZr.out.tr (Kp.ofNb (F:=fun _=>False) NB.out) (fun _ e=>e.elim))
       have BSt:=Lib.hid (BSt0.out.below NB.out)
       have HLE:=Lib.hid (show ∀ i,i < k->keyF (L1.getD i dR).1.f<=keyF ⟨fK,fI,fX,fR,fB,fE,fS,fD,fV,fA⟩ from fun i hi=>by
        have h1:=sort_le HK.out.1.1.sort (i:=i) (j:=j) (by have:=HKJ.out;omega) (by have:=LL.out;omega)
        rw[<- fstD L1 M1.out (by have:=HKJ.out;omega),<- fstD L1 M1.out (by omega),HKL.out] at h1
        have:=HLe.out
        rw[HKF.out] at this
        omega)
       have hxs7:=BXt.out.lt
       have hms7:=BMt.out.lt
       clear b0 b1 b2 b3 b4 b5 b6 b7 b8 b9 b10 a0 a1 a2 a3 a4 a5 a6 a7 a8 a9 a10 a11 r1 r2 u10 CE HCm
       have r1:w7.cell? ⟨m,1,none⟩=some (.int .i64 ((q.last:Int)+1)):=BMt.out.cell 1
       have r2:w7.cell? ⟨m,2,none⟩=some (.slice (some ⟨g,0,none⟩) (q.its.length+1) c8):=BMt.out.cell 2
       obtain⟨b0,b1,b2,b3,b4,b5,b6,b7,b8,b9,b10⟩:w7.cell? ⟨w.heap.size,0,none⟩=some (.int .i64 fK)/\w7.cell? ⟨w.heap.size,1,none⟩=some (.int .u32 fI)/\w7.cell? ⟨w.heap.size,2,none⟩=some (.bool fX)/\w7.cell? ⟨w.heap.size,3,none⟩=some (.bool fR)/\w7.cell? ⟨w.heap.size,4,none⟩=some (.bool fB)/\w7.cell? ⟨w.heap.size,5,none⟩=some (.bool fE)/\w7.cell? ⟨w.heap.size,6,none⟩=some (.bool fS)/\w7.cell? ⟨w.heap.size,7,none⟩=some (.int .u8 fD)/\w7.cell? ⟨w.heap.size,8,none⟩=some (.int .u8 fV)/\w7.cell? ⟨w.heap.size,9,none⟩=some (.int .u32 fA)/\w7.cell? ⟨w.heap.size,10,none⟩=some (.slice a l.length cap):=⟨BXt.out.cell 0,BXt.out.cell 1,BXt.out.cell 2,BXt.out.cell 3,BXt.out.cell 4,BXt.out.cell 5,BXt.out.cell 6,BXt.out.cell 7,BXt.out.cell 8,BXt.out.cell 9,BXt.out.cell 10⟩
       have u10:w7.frozen? ⟨w.heap.size,10,none⟩=false:=BXt.out.frozen 10
       go_wp2_with (at_builtin;refine wpList_appB _ rfl (.tmp 80) (.tmp 82) rfl (.slice (some ⟨w7.heap.size,0,none⟩) 0 0) [] (by rfl) (OwnB.fresh0 w7) a cap l l.length rfl (by rfl) (BSt.out.below (Nb.rfl.al _)) HNb.out (by have:=HSm.out;simp only[List.length_nil];omega) ?_;intro v9 w9 ho9 hk9 hg9;have O9:=Lib.hid (show OwnB w9 v9 l by simpa using ho9);have K9:=Lib.hid (show Kp (fun k=>w7.heap.size<=k) w7 w9 from (Kp.ofNb (Nb.rfl.al _)).tr hk9 (fun k e => .inr (by simp only[Value.ownBlock,Option.some.injEq] at e;omega)));have G9:=Lib.hid (show ∀ g,v9.ownBlock=some g->w7.heap.size<=g from fun g e=>(hg9 g e).elim (fun h=>by simp only[Value.ownBlock,Option.some.injEq] at h;omega) (fun h=>Nat.le_trans (Nb.rfl.al _:Nb w7 _).size h));clear ho9 hk9 hg9;obtain⟨a9,c9,rfl,_⟩:=O9.out.bs;have X9:=Lib.hid (BXt.out.keep K9.out (fun e=>by have:=BXt.out.lt;omega));have x10:w9.cell? ⟨w.heap.size,10,none⟩=some (.slice a l.length cap):=X9.out.cell 10;have y10:w9.frozen? ⟨w.heap.size,10,none⟩=false:=X9.out.frozen 10;have hx9:=X9.out.lt)
       obtain⟨u,hu⟩:∃ u,u=w9.setCell ⟨w.heap.size,10,none⟩ (.slice a9 l.length c9):=⟨_,rfl⟩
       have ku:Kp (fun k=>k=w.heap.size) w9 u:=by rw[hu];exact Kp.set (F:=fun k=>k=w.heap.size) rfl
       have XU:=Lib.hid (show Blk u w.heap.size #[(.int .i64 fK),(.int .u32 fI),(.bool fX),(.bool fR),(.bool fB),(.bool fE),(.bool fS),(.int .u8 fD),(.int .u8 fV),(.int .u32 fA),(.slice a9 l.length c9)] 36 by
        rw[hu]
        have:=X9.out.set 10 (.slice a9 l.length c9)
        simpa using this)
       have BU:=Lib.hid ((BMt.out.keep K9.out (fun e=>by have:=BMt.out.lt;omega)).keep ku (fun e=>by omega))
       have RU:=Lib.hid ((RWt.out.keep K9.out (fun e=>by have:=RWt.out.lt;omega)).keep ku (fun e=>by have:=G8.out;omega))
       have OU:=Lib.hid (O9.out.keep ku (fun g' e q=>by have:=G9.out g' e;have:=BXt.out.lt;omega))
       have KU:=Lib.hid ((KZt.out.tr (K9.out.mono (F':=fun k=>k=m\/w.heap.size<=k) (fun k _ e => .inr (by have:=BXt.out.lt;omega))) (fun k e => .inl e)).tr ku (fun k e => .inl (.inr (by omega))))
       have GU:=Lib.hid (show ∀ g',Value.ownBlock (.slice a9 l.length c9)=some g'->w.heap.size < g'/\g'≠g from fun g' e=>⟨by have:=G9.out g' e;have:=BXt.out.lt;omega,fun q=>by have:=G9.out g' e;have:=RWt.out.lt;omega⟩)
       have HU:=Lib.hid hu
       rw[<- HU.out]
       clear hu ku x10 y10 hx9
       clear b0 b1 b2 b3 b4 b5 b6 b7 b8 b9 b10 r1 r2 u10
       have r1:u.cell? ⟨m,1,none⟩=some (.int .i64 ((q.last:Int)+1)):=BU.out.cell 1
       have r2:u.cell? ⟨m,2,none⟩=some (.slice (some ⟨g,0,none⟩) (q.its.length+1) c8):=BU.out.cell 2
       obtain⟨b0,b1,b2,b3,b4,b5,b6,b7,b8,b9,b10⟩:u.cell? ⟨w.heap.size,0,none⟩=some (.int .i64 fK)/\u.cell? ⟨w.heap.size,1,none⟩=some (.int .u32 fI)/\u.cell? ⟨w.heap.size,2,none⟩=some (.bool fX)/\u.cell? ⟨w.heap.size,3,none⟩=some (.bool fR)/\u.cell? ⟨w.heap.size,4,none⟩=some (.bool fB)/\u.cell? ⟨w.heap.size,5,none⟩=some (.bool fE)/\u.cell? ⟨w.heap.size,6,none⟩=some (.bool fS)/\u.cell? ⟨w.heap.size,7,none⟩=some (.int .u8 fD)/\u.cell? ⟨w.heap.size,8,none⟩=some (.int .u8 fV)/\u.cell? ⟨w.heap.size,9,none⟩=some (.int .u32 fA)/\u.cell? ⟨w.heap.size,10,none⟩=some (.slice a9 l.length c9):=⟨XU.out.cell 0,XU.out.cell 1,XU.out.cell 2,XU.out.cell 3,XU.out.cell 4,XU.out.cell 5,XU.out.cell 6,XU.out.cell 7,XU.out.cell 8,XU.out.cell 9,XU.out.cell 10⟩
       have hki:(k:Int) < (q.its.length:Int)+1:=by have:=LL.out;omega
       have hzl:k < (midI L1 (k) z).length:=by rw[midI_len L1 z (by omega)];omega
       have hth:=RU.out.there hzl
       obtain⟨⟨g0,h0⟩,⟨g1,h1⟩,⟨g2,h2⟩,⟨g3,h3⟩,⟨g4,h4⟩,⟨g5,h5⟩,⟨g6,h6⟩,⟨g7,h7⟩,⟨g8,h8⟩,⟨g9,h9⟩,⟨g10,h10⟩,⟨g11,h11⟩⟩:((u.cell? ⟨g,(k)*12+0,none⟩).isSome=true/\u.frozen? ⟨g,(k)*12+0,none⟩=false)/\((u.cell? ⟨g,(k)*12+1,none⟩).isSome=true/\u.frozen? ⟨g,(k)*12+1,none⟩=false)/\((u.cell? ⟨g,(k)*12+2,none⟩).isSome=true/\u.frozen? ⟨g,(k)*12+2,none⟩=false)/\((u.cell? ⟨g,(k)*12+3,none⟩).isSome=true/\u.frozen? ⟨g,(k)*12+3,none⟩=false)/\((u.cell? ⟨g,(k)*12+4,none⟩).isSome=true/\u.frozen? ⟨g,(k)*12+4,none⟩=false)/\((u.cell? ⟨g,(k)*12+5,none⟩).isSome=true/\u.frozen? ⟨g,(k)*12+5,none⟩=false)/\((u.cell? ⟨g,(k)*12+6,none⟩).isSome=true/\u.frozen? ⟨g,(k)*12+6,none⟩=false)/\((u.cell? ⟨g,(k)*12+7,none⟩).isSome=true/\u.frozen? ⟨g,(k)*12+7,none⟩=false)/\((u.cell? ⟨g,(k)*12+8,none⟩).isSome=true/\u.frozen? ⟨g,(k)*12+8,none⟩=false)/\((u.cell? ⟨g,(k)*12+9,none⟩).isSome=true/\u.frozen? ⟨g,(k)*12+9,none⟩=false)/\((u.cell? ⟨g,(k)*12+10,none⟩).isSome=true/\u.frozen? ⟨g,(k)*12+10,none⟩=false)/\((u.cell? ⟨g,(k)*12+11,none⟩).isSome=true/\u.frozen? ⟨g,(k)*12+11,none⟩=false):=⟨hth 0 (by omega),hth 1 (by omega),hth 2 (by omega),hth 3 (by omega),hth 4 (by omega),hth 5 (by omega),hth 6 (by omega),hth 7 (by omega),hth 8 (by omega),hth 9 (by omega),hth 10 (by omega),hth 11 (by omega)⟩
       obtain⟨z0,g0⟩:=Option.isSome_iff_exists.1 g0
       obtain⟨z1,g1⟩:=Option.isSome_iff_exists.1 g1
       obtain⟨z2,g2⟩:=Option.isSome_iff_exists.1 g2
       obtain⟨z3,g3⟩:=Option.isSome_iff_exists.1 g3
       obtain⟨z4,g4⟩:=Option.isSome_iff_exists.1 g4
       obtain⟨z5,g5⟩:=Option.isSome_iff_exists.1 g5
       obtain⟨z6,g6⟩:=Option.isSome_iff_exists.1 g6
       obtain⟨z7,g7⟩:=Option.isSome_iff_exists.1 g7
       obtain⟨z8,g8⟩:=Option.isSome_iff_exists.1 g8
       obtain⟨z9,g9⟩:=Option.isSome_iff_exists.1 g9
       obtain⟨z10,g10⟩:=Option.isSome_iff_exists.1 g10
       obtain⟨z11,g11⟩:=Option.isSome_iff_exists.1 g11
       rw[Nat.add_zero] at g0 h0
       have eI:itC (⟨q.last+1,⟨fK,fI,fX,fR,fB,fE,fS,fD,fV,fA⟩,l⟩:It) (.slice a9 l.length c9)=[(.int .i64 ((q.last:Int)+1)),(.int .i64 fK),(.int .u32 fI),(.bool fX),(.bool fR),(.bool fB),(.bool fE),(.bool fS),(.int .u8 fD),(.int .u8 fV),(.int .u32 fA),(.slice a9 l.length c9)]:=by simp only[itC];rw[E1.out]
       have hput:=RU.out.put hzl (⟨q.last+1,⟨fK,fI,fX,fR,fB,fE,fS,fD,fV,fA⟩,l⟩:It) (.slice a9 l.length c9)
       rw[eI,midI_put L1 z _ (by omega)] at hput
       obtain⟨WW,hWW⟩:∃ WW,WW=((u.setCells g ((k)*12) [(.int .i64 ((q.last:Int)+1)),(.int .i64 fK),(.int .u32 fI),(.bool fX),(.bool fR),(.bool fB),(.bool fE),(.bool fS),(.int .u8 fD),(.int .u8 fV),(.int .u32 fA),(.slice a9 l.length c9)]).drew):=⟨_,rfl⟩
       have RP:=Lib.hid (show RwI 43 WW g (midI L1 (k) ((⟨q.last+1,⟨fK,fI,fX,fR,fB,fE,fS,fD,fV,fA⟩,l⟩,.slice a9 l.length c9):It × Value)) by rw[hWW];exact hput.nb (Below.drew (Below.refl _ _)))
       have KP:=Lib.hid (show Kp (fun k=>k=g) u WW by rw[hWW];exact (Kp.sets (F:=fun k=>k=g) rfl [(.int .i64 ((q.last:Int)+1)),(.int .i64 fK),(.int .u32 fI),(.bool fX),(.bool fR),(.bool fB),(.bool fE),(.bool fS),(.int .u8 fD),(.int .u8 fV),(.int .u32 fA),(.slice a9 l.length c9)] ((k)*12) u).tr (Kp.ofNb (F:=fun _=>False) (Below.drew (Below.refl _ _))) (fun _ e=>e.elim))
       have HWW:=Lib.hid hWW
       clear hput eI hWW hth
       have FIN:=Lib.hid (show TurnR w m (q.put ⟨fK,fI,fX,fR,fB,fE,fS,fD,fV,fA⟩ l) P WW from by
        have hp2:=RP.out
        have kp:=KP.out
        have g8:=G8.out
        have lx:=BXt.out.lt
        have kw:Kp (fun k=>k=m) w WW:=(KZ.out.tr (KU.out.mono (F':=fun k=>k=m\/w.heap.size<=k) (fun _ _ e=>e)) (fun k e=>e)).tr kp (fun k e => .inr (by subst e;exact Nat.le_of_lt g8))
        have bm:=BU.out.keep kp (fun e=>by subst e;exact absurd hm (by omega))
        have hns:w.heap.size<=WW.heap.size:=kw.size
        have hr1:RowI WW L1 (fun k=>P k\/(w.heap.size<=k/\k < WW.heap.size)):=(((R1.out.keep KU.out (fun k h e=>e.elim (fun e=>HPm.out (e ▸ h)) (fun e=>Nat.lt_irrefl _ (Nat.lt_of_lt_of_le (HPl.out k h) e)))).keep kp (fun k h e=>by subst e;exact Nat.lt_irrefl _ (Nat.lt_trans (HPl.out _ h) g8)))).up (fun k h => .inl h)
        have o9:=OU.out.keep kp (fun g' e q=>(GU.out g' e).2 q)
        have hr2:DatP WW a9 c9 l (fun k=>P k\/(w.heap.size<=k/\k < WW.heap.size)):=OwnB.datR o9 (fun g' e => .inr ⟨Nat.le_of_lt (GU.out g' e).1,o9.lt e⟩)
        have hrow:RowI WW (midI L1 (k) ((⟨q.last+1,⟨fK,fI,fX,fR,fB,fE,fS,fD,fV,fA⟩,l⟩,.slice a9 l.length c9):It × Value)) (fun k=>P k\/(w.heap.size<=k/\k < WW.heap.size)):=fun p hp=>by
         rcases List.mem_append.1 hp with hp | hp
         ·exact hr1 p (List.mem_of_mem_take hp)
         ·rcases List.mem_cons.1 hp with rfl | hp
          ·exact⟨a9,c9,rfl,hr2⟩
          ·exact hr1 p (List.mem_of_mem_drop hp)
        exact putW_fin (k:=k) (by omega) LL.out M1.out HLE.out GT.out e3.out E1.out hp2 hrow bm kw HPm.out (fun k h=>HPl.out k h) hm g8 C8.out.1 C8.out.2)
       have FI2:=Lib.hid (show TurnR w m (q.put ⟨fK,fI,fX,fR,fB,fE,fS,fD,fV,fA⟩ l) P ((u.setCells g ((k)*12) [(.int .i64 ((q.last:Int)+1)),(.int .i64 fK),(.int .u32 fI),(.bool fX),(.bool fR),(.bool fB),(.bool fE),(.bool fS),(.int .u8 fD),(.int .u8 fV),(.int .u32 fA),(.slice a9 l.length c9)]).drew) by rw[<- HWW.out];exact FIN.out)
       clear FIN
       have hgm:¬g=m:=by have:=G8.out;omega
       have hmg:¬m=g:=fun e=>hgm e.symm
       go_wp2_with fail
       go_region
       go_wp2
       go_ret2
       exact⟨rfl,FI2.out⟩
      ·have hr0:¬rv<=0:=by rw[hrv];unfold cmpN;rw[if_neg (by omega),if_pos (by omega)];omega
       have d3:decide (rv<=0)=false:=decide_eq_false hr0
       have HLe:=Lib.hid hle
       clear hrv hle
       have hj0:(0:Int)<=(j:Int):=by omega
       have hjn:j<=q.its.length:=by omega
       have hjn1:j < q.its.length+1:=by omega
       have hjw:=HJW.out
       have hjv:=HJV.out
       go_wp2_with fail
       go_region_held3 (fun w'=>w'.cell? ⟨m,2,none⟩=some (.slice (some ⟨g,0,none⟩) (q.its.length+1) c8)/\(w'.cell? ⟨g,j*12,none⟩=some (.int .i64 ((xn:Nat):Int))/\w'.cell? ⟨g,j*12+1,none⟩=some (.int .i64 xK)/\w'.cell? ⟨g,j*12+2,none⟩=some (.int .u32 xI)/\w'.cell? ⟨g,j*12+3,none⟩=some (.bool xX)/\w'.cell? ⟨g,j*12+4,none⟩=some (.bool xR)/\w'.cell? ⟨g,j*12+5,none⟩=some (.bool xB)/\w'.cell? ⟨g,j*12+6,none⟩=some (.bool xE)/\w'.cell? ⟨g,j*12+7,none⟩=some (.bool xS)/\w'.cell? ⟨g,j*12+8,none⟩=some (.int .u8 xD)/\w'.cell? ⟨g,j*12+9,none⟩=some (.int .u8 xV)/\w'.cell? ⟨g,j*12+10,none⟩=some (.int .u32 xA)/\w'.cell? ⟨g,j*12+11,none⟩=some (.slice xa xl.length xm))/\w'.cell? ⟨w.heap.size,0,none⟩=some (.int .i64 fK)/\w'.cell? ⟨w.heap.size,1,none⟩=some (.int .u32 fI)/\w'.cell? ⟨w.heap.size,2,none⟩=some (.bool fX)/\w'.cell? ⟨w.heap.size,3,none⟩=some (.bool fR)/\w'.cell? ⟨w.heap.size,4,none⟩=some (.bool fB)/\w'.cell? ⟨w.heap.size,5,none⟩=some (.bool fE)/\w'.cell? ⟨w.heap.size,6,none⟩=some (.bool fS)/\w'.cell? ⟨w.heap.size,7,none⟩=some (.int .u8 fD)/\w'.cell? ⟨w.heap.size,8,none⟩=some (.int .u8 fV)/\w'.cell? ⟨w.heap.size,9,none⟩=some (.int .u32 fA)/\w'.cell? ⟨w.heap.size,10,none⟩=some (.slice a l.length cap)) (first | go_keep | exact CE.out _ NB.out) ((go_at_call 42;refine (HCm.out _ NB.out).mono ?_;rintro e w7 ⟨rfl,n7⟩;have NB:=Lib.hid (NB.out.tr n7);clear n7))
       clear hjw hjv hjn hjn1 hj0
       have Ek:=HEK.out
       clear b0 b1 b2 b3 b4 b5 b6 b7 b8 b9 b10 a0 a1 a2 a3 a4 a5 a6 a7 a8 a9 a10 a11 r1 r2 u10
       obtain⟨r2,⟨a0,a1,a2,a3,a4,a5,a6,a7,a8,a9,a10,a11⟩,-⟩:=CE.out _ NB.out
       have hzl:k < (midI L1 k z).length:=by rw[midI_len L1 z (by omega)];omega
       have hth:=(RW.out.nb NB.out).there hzl
       obtain⟨⟨g0,h0⟩,⟨g1,h1⟩,⟨g2,h2⟩,⟨g3,h3⟩,⟨g4,h4⟩,⟨g5,h5⟩,⟨g6,h6⟩,⟨g7,h7⟩,⟨g8,h8⟩,⟨g9,h9⟩,⟨g10,h10⟩,⟨g11,h11⟩⟩:((w7.cell? ⟨g,k*12+0,none⟩).isSome=true/\w7.frozen? ⟨g,k*12+0,none⟩=false)/\((w7.cell? ⟨g,k*12+1,none⟩).isSome=true/\w7.frozen? ⟨g,k*12+1,none⟩=false)/\((w7.cell? ⟨g,k*12+2,none⟩).isSome=true/\w7.frozen? ⟨g,k*12+2,none⟩=false)/\((w7.cell? ⟨g,k*12+3,none⟩).isSome=true/\w7.frozen? ⟨g,k*12+3,none⟩=false)/\((w7.cell? ⟨g,k*12+4,none⟩).isSome=true/\w7.frozen? ⟨g,k*12+4,none⟩=false)/\((w7.cell? ⟨g,k*12+5,none⟩).isSome=true/\w7.frozen? ⟨g,k*12+5,none⟩=false)/\((w7.cell? ⟨g,k*12+6,none⟩).isSome=true/\w7.frozen? ⟨g,k*12+6,none⟩=false)/\((w7.cell? ⟨g,k*12+7,none⟩).isSome=true/\w7.frozen? ⟨g,k*12+7,none⟩=false)/\((w7.cell? ⟨g,k*12+8,none⟩).isSome=true/\w7.frozen? ⟨g,k*12+8,none⟩=false)/\((w7.cell? ⟨g,k*12+9,none⟩).isSome=true/\w7.frozen? ⟨g,k*12+9,none⟩=false)/\((w7.cell? ⟨g,k*12+10,none⟩).isSome=true/\w7.frozen? ⟨g,k*12+10,none⟩=false)/\((w7.cell? ⟨g,k*12+11,none⟩).isSome=true/\w7.frozen? ⟨g,k*12+11,none⟩=false):=⟨hth 0 (by omega),hth 1 (by omega),hth 2 (by omega),hth 3 (by omega),hth 4 (by omega),hth 5 (by omega),hth 6 (by omega),hth 7 (by omega),hth 8 (by omega),hth 9 (by omega),hth 10 (by omega),hth 11 (by omega)⟩
       obtain⟨z0,g0⟩:=Option.isSome_iff_exists.1 g0
       obtain⟨z1,g1⟩:=Option.isSome_iff_exists.1 g1
       obtain⟨z2,g2⟩:=Option.isSome_iff_exists.1 g2
       obtain⟨z3,g3⟩:=Option.isSome_iff_exists.1 g3
       obtain⟨z4,g4⟩:=Option.isSome_iff_exists.1 g4
       obtain⟨z5,g5⟩:=Option.isSome_iff_exists.1 g5
       obtain⟨z6,g6⟩:=Option.isSome_iff_exists.1 g6
       obtain⟨z7,g7⟩:=Option.isSome_iff_exists.1 g7
       obtain⟨z8,g8⟩:=Option.isSome_iff_exists.1 g8
       obtain⟨z9,g9⟩:=Option.isSome_iff_exists.1 g9
       obtain⟨z10,g10⟩:=Option.isSome_iff_exists.1 g10
       obtain⟨z11,g11⟩:=Option.isSome_iff_exists.1 g11
       rw[Nat.add_zero] at g0 h0
       have RN:=Lib.hid (show RwI 43 ((w7.setCells g (k*12) [(.int .i64 ((xn:Nat):Int)),(.int .i64 xK),(.int .u32 xI),(.bool xX),(.bool xR),(.bool xB),(.bool xE),(.bool xS),(.int .u8 xD),(.int .u8 xV),(.int .u32 xA),(.slice xa xl.length xm)]).drew) g (midI L1 j (L1.getD j dR)) from by
        have h1:=(RW.out.nb NB.out).put hzl (⟨xn,⟨xK,xI,xX,xR,xB,xE,xS,xD,xV,xA⟩,xl⟩:It) (.slice xa xl.length xm)
        have h2:(midI L1 k z).set k ((⟨xn,⟨xK,xI,xX,xR,xB,xE,xS,xD,xV,xA⟩,xl⟩,.slice xa xl.length xm):It × Value)=midI L1 j (L1.getD j dR):=by
         rw[<- HPp.out,HKJ.out]
         exact midI_up L1 z hjl
        rw[h2] at h1
        exact h1.nb (Below.drew (Below.refl _ _)))
       have KN:=Lib.hid (show Kp (fun k=>k=g) w7 ((w7.setCells g (k*12) [(.int .i64 ((xn:Nat):Int)),(.int .i64 xK),(.int .u32 xI),(.bool xX),(.bool xR),(.bool xB),(.bool xE),(.bool xS),(.int .u8 xD),(.int .u8 xV),(.int .u32 xA),(.slice xa xl.length xm)]).drew) from (Kp.sets (F:=fun k=>k=g) rfl _ _ _).tr (Kp.ofNb (F:=fun _=>False) (Below.drew (Below.refl _ _))) (fun _ e=>e.elim))
       have hwg:=G8.out
       have BMn:=Lib.hid ((BM.out.nb NB.out).keep KN.out (fun e=>by omega))
       have BXn:=Lib.hid ((BX.out.nb NB.out).keep KN.out (fun e=>by omega))
       have KZn:=Lib.hid ((KZr.out.tr (Kp.ofNb (F:=fun _=>False) NB.out) (fun _ e=>e.elim)).tr KN.out (fun k e => .inl (.inr (by omega))))
       have hgm:¬g=m:=by have:=G8.out;omega
       have hmg:¬m=g:=fun e=>hgm e.symm
       go_wp2_with fail
       go_region
       go_wp2
       go_roundw
       case rel =>
        refine⟨j,L1.getD j dR,by omega,by first | rfl | (congr 1),BMn.out,BXn.out,RN.out,KZn.out,fun i h1 h2 => ?_⟩
        by_cases e:i=j
        ·subst e
         rw[HKL.out,<- HKF.out]
         have:=HLe.out
         omega
        ·exact GT.out i (by have:=HKJ.out;omega) h2
       case measure=>have:=HKJ.out;simp[intOf];omega
end Go.Proofs.YtdedoeeekcfkpaaDoor
