/- The program's queue in memory: New, Len, Put. Conditions: the table of longer sizes holds what the program's text lays there; at most a million numbers. The program's queue: Put. Conditions: the table of longer sizes holds what the program's text lays there; at most a million numbers. The program's queue: next, Head, Take. Conditions: the table of longer sizes holds what the program's text lays there. The program's queue: Head, Take, Cancel. Conditions: the table of longer sizes holds what the program's text lays there. The program's queue: the contracts of Put, Head, Take, Cancel. Conditions: the table of longer sizes holds what the program's text lays there; at most a million numbers. The program's queue: the contracts of Cancel, All. Conditions: the table of longer sizes holds what the program's text lays there. -/
import Derived.Test.YtdedoeeekcfkpaaDoorGhc
import Derived.Test.YtdedoeeekcfkpaaDoorGhd
import Derived.Test.YtdedoeeekcfkpaaDoorGor
import Derived.Test.YtdedoeeekcfkpaaDoorGj
import Derived.Laws.EntriesVeiled
import Derived.Test.YtdedoeeekcfkpaaDoorGha
set_option maxHeartbeats 3200000
set_option maxRecDepth 100000
namespace Go.Proofs.YtdedoeeekcfkpaaDoor
set_option linter.unusedVariables false
set_option linter.unusedSimpArgs false
open Go.RowKit Go.Sort
structure QuM (w:World) (R:Nat) (vs:Value) (l:List (It × Value)) (q:Qu) (D:Nat->Prop):Prop where
 at':HeE w R (.int .i64 (q.room:Nat)) (.int .i64 (q.last:Nat)) vs l
 row:RowI w l D
 ap:∀ k,D k->k≠R/\vs.ownBlock≠some k/\k < w.heap.size
 heap:HeQ dR kpE allQ l l.length
 perm:(l.map Prod.fst).Perm q.its
 ok:q.Ok
 room:q.room<=64
 wd:∀ x∈q.its,WdX x.f
def QuAt (w:World) (v:Value) (q:Qu) (F:Nat->Prop):Prop:=∃ R vs l D,v = .pointer (some ⟨R,0,none⟩)/\QuM w R vs l q D/\∀ k,F k↔(k=R\/vs.ownBlock=some k\/D k)
theorem QuM.len {w:World} {R:Nat} {vs:Value} {l:List (It × Value)} {q:Qu} {D:Nat->Prop} (h:QuM w R vs l q D):l.length=q.its.length/\l.length<=64:=by
 have:=h.perm.length_eq
 rw[List.length_map] at this
 have:=h.ok.room
 have:=h.room
 omega
theorem QuM.sl {w:World} {R:Nat} {vs:Value} {l:List (It × Value)} {q:Qu} {D:Nat->Prop} (h:QuM w R vs l q D):SlE l:=fun p hp=>by
 obtain⟨a,k,e,_⟩:=h.row p hp
 exact⟨a,_,k,e⟩
theorem QuM.keep {F:Nat->Prop} {w w':World} {R:Nat} {vs:Value} {l:List (It × Value)} {q:Qu} {D:Nat->Prop} (h:QuM w R vs l q D) (hk:Kp F w w') (h1:¬F R) (h2:∀ g,vs.ownBlock=some g->¬F g) (h3:∀ k,D k->¬F k):QuM w' R vs l q D :=
 ⟨h.at'.keep hk h1 h2,h.row.keep hk h3,fun k hd=>⟨(h.ap k hd).1,(h.ap k hd).2.1,Nat.lt_of_lt_of_le (h.ap k hd).2.2 hk.size⟩,h.heap,h.perm,h.ok,h.room,h.wd⟩
theorem QuM.nb {w w':World} {R:Nat} {vs:Value} {l:List (It × Value)} {q:Qu} {D:Nat->Prop} (h:QuM w R vs l q D) (hk:Nb w w'):QuM w' R vs l q D:=h.keep (F:=fun _=>False) (Kp.ofNb hk) (by simp) (by simp) (by simp)
theorem qu_ok {w:World} {v:Value} {q:Qu} {F:Nat->Prop} (h:QuAt w v q F):q.Ok/\q.room<=64/\∀ x∈q.its,WdX x.f:=by
 obtain⟨R,vs,l,D,_,m,_⟩:=h
 exact⟨m.ok,m.room,m.wd⟩
theorem qu_keep {w w':World} {v:Value} {q:Qu} {F G:Nat->Prop} (h:QuAt w v q F) (hk:Kp G w w') (hn:∀ k,F k->¬G k):QuAt w' v q F:=by
 obtain⟨R,vs,l,D,e,m,hF⟩:=h
 exact⟨R,vs,l,D,e,m.keep hk (hn R ((hF R).2 (.inl rfl))) (fun g e=>hn g ((hF g).2 (.inr (.inl e)))) (fun k e=>hn k ((hF k).2 (.inr (.inr e)))),hF⟩
theorem qu_lt {w:World} {v:Value} {q:Qu} {F:Nat->Prop} (h:QuAt w v q F):∀ k,F k->k < w.heap.size:=fun k hk=>by
 obtain⟨R,vs,l,D,e,m,hF⟩:=h
 rcases (hF k).1 hk with rfl | hk | hk
 ·exact m.at'.blk.lt
 ·exact m.at'.own.lt hk
 ·exact (m.ap k hk).2.2
theorem OwnB.datH {w:World} {a:Option Addr} {c:Nat} {l:List Nat} {X:Nat->Prop} (h:OwnB w (.slice a l.length c) l) (hX:∀ g,Value.ownBlock (.slice a l.length c)=some g->X g):DatP w a c l X:=by
 refine⟨h.asBs.1,fun b o t e hl => ?_⟩
 subst e
 obtain⟨b',c',hsh⟩:=h.shape (by omega)
 simp only[Value.slice.injEq,Option.some.injEq,Addr.mk.injEq,true_and] at hsh
 obtain⟨⟨rfl,rfl,rfl⟩,rfl⟩:=hsh
 exact⟨hX b rfl,fun i=>by rw[Nat.zero_add];exact h.frozen rfl i⟩
theorem okF_small {f:Hd} {l:List Nat} (h:okF f l=true):l.length<=2048:=by
 have h1:hasF f.K (l.length:Int)=true:=by
  cases hq:hasF f.K (l.length:Int) with
  | true=>rfl
  | false=>simp[okF,hq] at h
 obtain⟨g1,g2⟩:=(hasF_iff _ _).1 h1
 have:=atF_lt _ _ g1
 omega
theorem insI_perm (x:It):∀ L:List It,(insI x L).Perm (x::L):=by
 intro L
 induction L with
 | nil=>exact List.Perm.refl _
 | cons y L ih =>
   unfold insI
   split
   ·exact (ih.cons y).trans (List.Perm.swap x y L)
   ·exact List.Perm.refl _
theorem newheap_any (w:World):Calls Tryd.prog 31 #[(.func (.func 32) #[] #[])] w fun e w'=>e = .returned (.agg #[.slice none 0 0,(.func (.func 32) #[] #[])])/\Nb w w':=by
 go_enter Tryd.func31,Tryd.ntmps31
 go_wp2
 refine bodyPost_ret (v := .agg #[.slice none 0 0,(.func (.func 32) #[] #[])]) (by simp[results,Tryd.results31,go_sem]) rfl ?_
 exact⟨rfl,Nb.rfl.al _⟩
theorem newQ_any (room:Nat) (h:room<=64) (w:World) (_hl:Longer w):Calls Tryd.prog 11 #[.int .i64 (room:Nat)] w (NewQ QuAt w room):=by
 have HN:=Lib.hid (fun w=>newheap_any w)
 have d1:decide ((room:Int) < 0)=false:=decide_eq_false (by omega)
 have d2:decide ((64:Int) < (room:Int))=false:=decide_eq_false (by omega)
 have h64:=Lib.hid h
 clear h
 go_enter Tryd.func11,Tryd.ntmps11
 go_wp2_with fail
 refine (HN.out _).mono ?_
 rintro e w1 ⟨rfl,n1⟩
 have N1:=Lib.hid n1
 clear n1
 go_wp2
 go_ret2
 have b:=Blk.new w1 #[.int .i64 (room:Nat),.int .i64 0,.slice none 0 0,(.func (.func 32) #[] #[])] 82
 refine⟨w1.heap.size,fun k=>k=w1.heap.size\/Value.ownBlock (.slice none 0 0)=some k\/False,rfl,⟨w1.heap.size,.slice none 0 0,[],fun _=>False,rfl,⟨⟨b,OwnE.nil _,by simp[Value.ownBlock]⟩,RowI.nil _ _,fun k hk=>hk.elim,fun c h1 h2=>by simp at h2,List.Perm.refl _,Qu.Ok.new room,h64.out,by simp⟩,fun k=>Iff.rfl⟩,fun k hk => ?_,N1.out.al _⟩
 rcases hk with rfl | hk | hk
 ·exact N1.out.size
 ·simp[Value.ownBlock] at hk
 ·exact hk.elim
theorem newQ_bad (room:Int) (h:room < 0\/64 < room) (w:World) (_hl:Longer w):Calls Tryd.prog 11 #[.int .i64 room] w fun e w'=>e = .returned (.tuple #[.pointer none,.int .i64 2])/\Nb w w':=by
 by_cases h0:room < 0
 ·have d1:decide (room < 0)=true:=decide_eq_true h0
  clear h
  go_enter Tryd.func11,Tryd.ntmps11
  go_wp2
  go_ret2
  exact⟨rfl,Nb.rfl⟩
 ·have h1:64 < room:=by omega
  have d1:decide (room < 0)=false:=decide_eq_false h0
  have d2:decide ((64:Int) < room)=true:=decide_eq_true h1
  clear h
  go_enter Tryd.func11,Tryd.ntmps11
  go_wp2
  go_ret2
  exact⟨rfl,Nb.rfl⟩
theorem lenM_any {w:World} {R:Nat} {vs:Value} {l:List (It × Value)} {q:Qu} {D:Nat->Prop} (h:QuM w R vs l q D) (w':World) (n:Nb w w'):Calls Tryd.prog 21 #[.pointer (some ⟨R,0,none⟩)] w' fun e w2=>e = .returned (.int .i64 (q.its.length:Nat))/\Nb w' w2:=by
 have HL:=Lib.hid (wlenE_any R _ _ _ _ w' (h.at'.nb n))
 rw[h.len.1] at HL
 clear h n
 go_enter Tryd.func21,Tryd.ntmps21
 go_wp2_with fail
 refine HL.out.mono ?_
 rintro e w2 ⟨rfl,rfl⟩
 go_wp2
 go_ret
 exact⟨rfl,Nb.rfl⟩
theorem lenQ_any (v:Value) (q:Qu) (F:Nat->Prop) (w:World) (h:QuAt w v q F):Calls Tryd.prog 21 #[v] w fun e w2=>e = .returned (.int .i64 (q.its.length:Nat))/\Nb w w2:=by
 obtain⟨R,vs,l,D,rfl,m,_⟩:=h
 exact lenM_any m w Nb.rfl
end Go.Proofs.YtdedoeeekcfkpaaDoor
namespace Go.Proofs.YtdedoeeekcfkpaaDoor
set_option linter.unusedVariables false
set_option linter.unusedSimpArgs false
open Go.RowKit Go.Sort
theorem byte_no (x y:Int) (va:Option Addr) (vn vc o:Nat) {u:Value} (h:(#[.int .i64 x,.int .i64 y,.slice va vn vc,cmpHE]:Array Value)[o]? = some u):∀ b:Int,u ≠ .int .u8 b:=by
 intro b e
 subst e
 match o,h with
 | 0,h=>simp at h
 | 1,h=>simp at h
 | 2,h=>simp at h
 | 3,h=>simp[cmpHE] at h
 | n+4,h=>simp at h
theorem putM_any (R:Nat) (vs:Value) (l0:List (It × Value)) (q:Qu) (D:Nat->Prop) (f:Hd) (a:Option Addr) (cap:Nat) (l:List Nat) (w:World) (h:QuM w R vs l0 q D) (hl:Longer w) (hb:Bs w a cap l) (hw:WdX f) (hq:q.last<=1000000) :
    Calls Tryd.prog 19 #[.pointer (some ⟨R,0,none⟩),.agg (f.cs (.slice a l.length cap))] w fun e w'=>e = .returned (.tuple #[.int .i64 (q.putN f l:Nat),.int .i64 (q.putE f l:Nat)])/\∃ vs' l' D',QuM w' R vs' l' (q.put f l) D'/\Kp (fun k=>k=R\/vs.ownBlock=some k) w w'/\(∀ k,vs'.ownBlock=some k->vs.ownBlock=some k\/w.heap.size<=k)/\∀ k,D' k->D k\/w.heap.size<=k:=by
 obtain⟨fK,fI,fX,fR,fB,fE,fS,fD,fV,fA⟩:=f
 have HKy:=Lib.hid (fun w' (n:Nb w w')=>key_any ⟨fK,fI,fX,fR,fB,fE,fS,fD,fV,fA⟩ a cap l w' (hb.below n) hw.1 (hl.below n))
 have HLn:=Lib.hid (fun w' (n:Nb w w')=>lenM_any h w' n)
 have HB:=Lib.hid (fun w' (n:Nb w w')=>(h.nb n).at'.blk)
 have HM:=Lib.hid h
 have HW:=Lib.hid hw
 have HBs:=Lib.hid hb
 obtain⟨y,hy⟩:∃ y,y=w.alloc (.cells #[(.int .i64 fK),(.int .u32 fI),(.bool fX),(.bool fR),(.bool fB),(.bool fE),(.bool fS),(.int .u8 fD),(.int .u8 fV),(.int .u32 fA),(.slice a l.length cap)] 36):=⟨_,rfl⟩
 have X0:=Lib.hid (show Blk y w.heap.size #[(.int .i64 fK),(.int .u32 fI),(.bool fX),(.bool fR),(.bool fB),(.bool fE),(.bool fS),(.int .u8 fD),(.int .u8 fV),(.int .u32 fA),(.slice a l.length cap)] 36 by rw[hy];exact Blk.new _ _ _)
 have NY:=Lib.hid (show Nb w y by rw[hy];exact Nb.rfl.al _)
 have HY:=Lib.hid hy
 clear hy hl hw hb
 unfold AnsK at HKy
 cases hok:okF ⟨fK,fI,fX,fR,fB,fE,fS,fD,fV,fA⟩ l with
 | false =>
   have e1:q.putE ⟨fK,fI,fX,fR,fB,fE,fS,fD,fV,fA⟩ l=2:=by unfold Qu.putE;rw[if_pos hok]
   have e2:q.putN ⟨fK,fI,fX,fR,fB,fE,fS,fD,fV,fA⟩ l=0:=by unfold Qu.putN;rw[if_neg (by rw[e1];omega)]
   have e3:q.put ⟨fK,fI,fX,fR,fB,fE,fS,fD,fV,fA⟩ l=q:=by unfold Qu.put;rw[if_neg (by rw[e1];omega)]
   rw[e1,e2,e3]
   unfold checkN at HKy
   rw[hok] at HKy
   simp only[Hd.cs,if_false,Bool.false_eq_true] at HKy ⊢
   generalize keyV ⟨fK,fI,fX,fR,fB,fE,fS,fD,fV,fA⟩ l=ky at HKy
   clear e1 e2 e3 hok h
   go_enter Tryd.func19,Tryd.ntmps19
   go_wp2_with fail
   rw[<- HY.out]
   obtain⟨b0,b1,b2,b3,b4,b5,b6,b7,b8,b9,b10⟩:y.cell? ⟨w.heap.size,0,none⟩=some (.int .i64 fK)/\y.cell? ⟨w.heap.size,1,none⟩=some (.int .u32 fI)/\y.cell? ⟨w.heap.size,2,none⟩=some (.bool fX)/\y.cell? ⟨w.heap.size,3,none⟩=some (.bool fR)/\y.cell? ⟨w.heap.size,4,none⟩=some (.bool fB)/\y.cell? ⟨w.heap.size,5,none⟩=some (.bool fE)/\y.cell? ⟨w.heap.size,6,none⟩=some (.bool fS)/\y.cell? ⟨w.heap.size,7,none⟩=some (.int .u8 fD)/\y.cell? ⟨w.heap.size,8,none⟩=some (.int .u8 fV)/\y.cell? ⟨w.heap.size,9,none⟩=some (.int .u32 fA)/\y.cell? ⟨w.heap.size,10,none⟩=some (.slice a l.length cap):=⟨X0.out.cell 0,X0.out.cell 1,X0.out.cell 2,X0.out.cell 3,X0.out.cell 4,X0.out.cell 5,X0.out.cell 6,X0.out.cell 7,X0.out.cell 8,X0.out.cell 9,X0.out.cell 10⟩
   go_wp2_with fail
   refine (HKy.out _ NY.out).mono ?_
   rintro e w1 ⟨rfl,n1⟩
   have N1:=Lib.hid (NY.out.tr n1)
   clear n1
   go_wp2
   go_ret2
   exact⟨rfl,vs,l0,D,HM.out.nb N1.out,Kp.ofNb N1.out,fun k e => .inl e,fun k e => .inl e⟩
 | true =>
   unfold checkN at HKy
   rw[hok] at HKy
   have ekv:keyV ⟨fK,fI,fX,fR,fB,fE,fS,fD,fV,fA⟩ l=keyF ⟨fK,fI,fX,fR,fB,fE,fS,fD,fV,fA⟩:=by unfold keyV;rw[if_pos hok]
   rw[ekv] at HKy
   simp only[Hd.cs,if_true] at HKy
   by_cases hfull:q.room<=q.its.length
   ·have e1:q.putE ⟨fK,fI,fX,fR,fB,fE,fS,fD,fV,fA⟩ l=8:=by unfold Qu.putE;rw[if_neg (by rw[hok];simp),if_pos hfull]
    have e2:q.putN ⟨fK,fI,fX,fR,fB,fE,fS,fD,fV,fA⟩ l=0:=by unfold Qu.putN;rw[if_neg (by rw[e1];omega)]
    have e3:q.put ⟨fK,fI,fX,fR,fB,fE,fS,fD,fV,fA⟩ l=q:=by unfold Qu.put;rw[if_neg (by rw[e1];omega)]
    rw[e1,e2,e3]
    simp only[Hd.cs]
    generalize keyF ⟨fK,fI,fX,fR,fB,fE,fS,fD,fV,fA⟩=ky at HKy
    have d1:decide ((q.room:Int)<=(q.its.length:Int))=true:=decide_eq_true (by omega)
    have d2:decide (q.room<=q.its.length)=true:=decide_eq_true hfull
    clear e1 e2 e3 hok ekv h hfull
    go_enter Tryd.func19,Tryd.ntmps19
    go_wp2_with fail
    rw[<- HY.out]
    obtain⟨b0,b1,b2,b3,b4,b5,b6,b7,b8,b9,b10⟩:y.cell? ⟨w.heap.size,0,none⟩=some (.int .i64 fK)/\y.cell? ⟨w.heap.size,1,none⟩=some (.int .u32 fI)/\y.cell? ⟨w.heap.size,2,none⟩=some (.bool fX)/\y.cell? ⟨w.heap.size,3,none⟩=some (.bool fR)/\y.cell? ⟨w.heap.size,4,none⟩=some (.bool fB)/\y.cell? ⟨w.heap.size,5,none⟩=some (.bool fE)/\y.cell? ⟨w.heap.size,6,none⟩=some (.bool fS)/\y.cell? ⟨w.heap.size,7,none⟩=some (.int .u8 fD)/\y.cell? ⟨w.heap.size,8,none⟩=some (.int .u8 fV)/\y.cell? ⟨w.heap.size,9,none⟩=some (.int .u32 fA)/\y.cell? ⟨w.heap.size,10,none⟩=some (.slice a l.length cap):=⟨X0.out.cell 0,X0.out.cell 1,X0.out.cell 2,X0.out.cell 3,X0.out.cell 4,X0.out.cell 5,X0.out.cell 6,X0.out.cell 7,X0.out.cell 8,X0.out.cell 9,X0.out.cell 10⟩
    go_wp2_with fail
    refine (HKy.out _ NY.out).mono ?_
    rintro e w1 ⟨rfl,n1⟩
    have N1:=Lib.hid (NY.out.tr n1)
    clear n1
    have c0:w1.cell? ⟨R,0,none⟩=some (.int .i64 (q.room:Nat)):=(HB.out _ N1.out).cell 0
    have NB:=Lib.hid (show Nb w w1.drew from N1.out.tr (Below.drew (Below.refl _ _)))
    go_wp2_with fail
    go_region_held3 (fun w'=>w'.cell? ⟨R,0,none⟩=some (.int .i64 (q.room:Nat))) (first | go_keep | exact (HB.out _ NB.out).cell 0) ((go_at_call 21;refine (HLn.out _ NB.out).mono ?_;rintro e w7 ⟨rfl,n7⟩;have NB:=Lib.hid (NB.out.tr n7);clear n7))
    go_wp2
    go_ret2
    exact⟨rfl,vs,l0,D,HM.out.nb NB.out,Kp.ofNb NB.out,fun k e => .inl e,fun k e => .inl e⟩
   ·have e1:q.putE ⟨fK,fI,fX,fR,fB,fE,fS,fD,fV,fA⟩ l=0:=by unfold Qu.putE;rw[if_neg (by rw[hok];simp),if_neg hfull]
    have e2:q.putN ⟨fK,fI,fX,fR,fB,fE,fS,fD,fV,fA⟩ l=q.last+1:=by unfold Qu.putN;rw[if_pos e1]
    have e3:=Lib.hid (Qu.put_go e1)
    have hok':=Lib.hid (h.ok.put ⟨fK,fI,fX,fR,fB,fE,fS,fD,fV,fA⟩ l)
    have hsm:=okF_small hok
    have hll:=h.len
    have HCq:=Lib.hid (fun w' z (hz:Bs z a cap l) (n:Nb z w')=>copy_all ⟨fK,fI,fX,fR,fB,fE,fS,fD,fV,fA⟩ a cap l w' (hz.below n) (by omega))
    have FR:=Lib.hid (show ¬(w.heap.size=R\/vs.ownBlock=some w.heap.size) from fun e=>e.elim (fun e=>by have:=h.at'.blk.lt;omega) (fun e=>by have:=h.at'.own.lt e;omega))
    have E1:=Lib.hid (show ((q.last+1:Nat):Int)=(q.last:Int)+1 by omega)
    have HPt:=Lib.hid (fun w' a1 c1 (hh:HeE w' R (.int .i64 (q.room:Nat)) (.int .i64 ((q.last:Int)+1)) vs l0)=>by
     have:=wputE_any R _ _ vs l0 ((⟨q.last+1,⟨fK,fI,fX,fR,fB,fE,fS,fD,fV,fA⟩,l⟩,.slice a1 l.length c1):It × Value) w' hh h.sl ⟨_,_,_,rfl⟩ (by omega) h.heap
     simp only[enC,itC] at this
     rw[E1.out] at this
     exact this)
    have d1:decide ((q.room:Int)<=(q.its.length:Int))=false:=decide_eq_false (by omega)
    have d2:decide (q.room<=q.its.length)=false:=decide_eq_false hfull
    have HQ:=Lib.hid hq
    have hRl:=h.at'.blk.lt
    rw[e1,e2]
    rw[E1.out]
    simp only[Hd.cs] at HCq ⊢
    clear e1 e2 hok ekv hsm hll h hfull
    generalize keyF ⟨fK,fI,fX,fR,fB,fE,fS,fD,fV,fA⟩=ky at HKy HPt
    go_enter Tryd.func19,Tryd.ntmps19
    go_wp2_with fail
    rw[<- HY.out]
    obtain⟨b0,b1,b2,b3,b4,b5,b6,b7,b8,b9,b10⟩:y.cell? ⟨w.heap.size,0,none⟩=some (.int .i64 fK)/\y.cell? ⟨w.heap.size,1,none⟩=some (.int .u32 fI)/\y.cell? ⟨w.heap.size,2,none⟩=some (.bool fX)/\y.cell? ⟨w.heap.size,3,none⟩=some (.bool fR)/\y.cell? ⟨w.heap.size,4,none⟩=some (.bool fB)/\y.cell? ⟨w.heap.size,5,none⟩=some (.bool fE)/\y.cell? ⟨w.heap.size,6,none⟩=some (.bool fS)/\y.cell? ⟨w.heap.size,7,none⟩=some (.int .u8 fD)/\y.cell? ⟨w.heap.size,8,none⟩=some (.int .u8 fV)/\y.cell? ⟨w.heap.size,9,none⟩=some (.int .u32 fA)/\y.cell? ⟨w.heap.size,10,none⟩=some (.slice a l.length cap):=⟨X0.out.cell 0,X0.out.cell 1,X0.out.cell 2,X0.out.cell 3,X0.out.cell 4,X0.out.cell 5,X0.out.cell 6,X0.out.cell 7,X0.out.cell 8,X0.out.cell 9,X0.out.cell 10⟩
    go_wp2_with fail
    refine (HKy.out _ NY.out).mono ?_
    rintro e w1 ⟨rfl,n1⟩
    have N1:=Lib.hid (NY.out.tr n1)
    have X1:=Lib.hid (X0.out.nb n1)
    clear n1
    have c0:w1.cell? ⟨R,0,none⟩=some (.int .i64 (q.room:Nat)):=(HB.out _ N1.out).cell 0
    have NB:=Lib.hid (show Nb w1 w1.drew from Below.drew (Below.refl _ _))
    go_wp2_with fail
    go_region_held3 (fun w'=>w'.cell? ⟨R,0,none⟩=some (.int .i64 (q.room:Nat))) (first | go_keep | exact (HB.out _ (N1.out.tr NB.out)).cell 0) ((go_at_call 21;refine (HLn.out _ (N1.out.tr NB.out)).mono ?_;rintro e w7 ⟨rfl,n7⟩;have NB:=Lib.hid (NB.out.tr n7);clear n7))
    have N7:=Lib.hid (N1.out.tr NB.out)
    have X7:=Lib.hid (X1.out.nb NB.out)
    have B7:=HB.out _ N7.out
    have c1:w7.cell? ⟨R,1,none⟩=some (.int .i64 (q.last:Nat)):=B7.cell 1
    have f1:w7.frozen? ⟨R,1,none⟩=false:=B7.frozen 1
    clear B7
    clear c0
    go_wp2_with fail
    obtain⟨z,hz⟩:∃ z,z=w7.setCell ⟨R,1,none⟩ (.int .i64 ((q.last:Int)+1)):=⟨_,rfl⟩
    have ZM:=Lib.hid (show HeE z R (.int .i64 (q.room:Nat)) (.int .i64 ((q.last:Int)+1)) vs l0 from by
     have m:=HM.out.nb N7.out
     have b:=m.at'.blk.set 1 (.int .i64 ((q.last:Int)+1))
     have k:Kp (fun k=>k=R) w7 z:=by rw[hz];exact Kp.set (F:=fun k=>k=R) rfl
     refine⟨by rw[hz];simpa using b,m.at'.own.keep k (fun g e q=>m.at'.ne (by rw[e,q])),m.at'.ne⟩)
    have ZK:=Lib.hid (show Kp (fun k=>k=R\/vs.ownBlock=some k) w z from (Kp.ofNb N7.out).tr (show Kp (fun k=>k=R) w7 z by rw[hz];exact Kp.set (F:=fun k=>k=R) rfl) (fun k e => .inl (.inl e)))
    have ZX:=Lib.hid (show Blk z w.heap.size #[(.int .i64 fK),(.int .u32 fI),(.bool fX),(.bool fR),(.bool fB),(.bool fE),(.bool fS),(.int .u8 fD),(.int .u8 fV),(.int .u32 fA),(.slice a l.length cap)] 36 by rw[hz];exact X7.out.other (fun e=>by have e:w.heap.size=R:=e;omega) _)
    have ZS:=Lib.hid (show w.heap.size < z.heap.size from ZX.out.lt)
    have ZBs:=Lib.hid (show Bs z a cap l from (HBs.out.below N7.out).keepKpZ (G:=fun k=>k=R) (by rw[hz];exact Kp.set (F:=fun k=>k=R) rfl) (fun b o t e h0 q=>by
     obtain⟨b',o',e',hc⟩:=(HBs.out.below N7.out).hcells h0
     rw[e] at e'
     simp only[Option.some.injEq,Addr.mk.injEq] at e'
     obtain⟨rfl,rfl,rfl⟩:=e'
     have hc0:=hc 0 h0
     rw[q,(HB.out _ N7.out).cell] at hc0
     obtain⟨va,vc,rfl,_⟩:=HM.out.at'.own.shape
     exact byte_no _ _ _ _ _ _ hc0 _ rfl))
    have HCp:=Lib.hid (fun w' (n:Nb z w')=>HCq.out w' z ZBs.out n)
    have HZ:=Lib.hid hz
    rw[<- HZ.out]
    clear hz c1 f1
    have NB:=Lib.hid (show Nb z z.drew from Below.drew (Below.refl _ _))
    obtain⟨x0,x1,x2,x3,x4,x5,x6,x7,x8,x9,x10⟩:z.cell? ⟨w.heap.size,0,none⟩=some (.int .i64 fK)/\z.cell? ⟨w.heap.size,1,none⟩=some (.int .u32 fI)/\z.cell? ⟨w.heap.size,2,none⟩=some (.bool fX)/\z.cell? ⟨w.heap.size,3,none⟩=some (.bool fR)/\z.cell? ⟨w.heap.size,4,none⟩=some (.bool fB)/\z.cell? ⟨w.heap.size,5,none⟩=some (.bool fE)/\z.cell? ⟨w.heap.size,6,none⟩=some (.bool fS)/\z.cell? ⟨w.heap.size,7,none⟩=some (.int .u8 fD)/\z.cell? ⟨w.heap.size,8,none⟩=some (.int .u8 fV)/\z.cell? ⟨w.heap.size,9,none⟩=some (.int .u32 fA)/\z.cell? ⟨w.heap.size,10,none⟩=some (.slice a l.length cap):=⟨ZX.out.cell 0,ZX.out.cell 1,ZX.out.cell 2,ZX.out.cell 3,ZX.out.cell 4,ZX.out.cell 5,ZX.out.cell 6,ZX.out.cell 7,ZX.out.cell 8,ZX.out.cell 9,ZX.out.cell 10⟩
    have zc:z.cell? ⟨R,1,none⟩=some (.int .i64 ((q.last:Int)+1)):=ZM.out.blk.cell 1
    go_region_held3 (fun w'=>w'.cell? ⟨R,1,none⟩=some (.int .i64 ((q.last:Int)+1))/\w'.cell? ⟨w.heap.size,0,none⟩=some (.int .i64 fK)/\w'.cell? ⟨w.heap.size,1,none⟩=some (.int .u32 fI)/\w'.cell? ⟨w.heap.size,2,none⟩=some (.bool fX)/\w'.cell? ⟨w.heap.size,3,none⟩=some (.bool fR)/\w'.cell? ⟨w.heap.size,4,none⟩=some (.bool fB)/\w'.cell? ⟨w.heap.size,5,none⟩=some (.bool fE)/\w'.cell? ⟨w.heap.size,6,none⟩=some (.bool fS)/\w'.cell? ⟨w.heap.size,7,none⟩=some (.int .u8 fD)/\w'.cell? ⟨w.heap.size,8,none⟩=some (.int .u8 fV)/\w'.cell? ⟨w.heap.size,9,none⟩=some (.int .u32 fA)/\w'.cell? ⟨w.heap.size,10,none⟩=some (.slice a l.length cap)) (first | go_keep | exact CE.out) (first | (go_at_call 30;refine (HCp.out _ NB.out).mono ?_;rintro e w8 ⟨⟨a1,c1,rfl,f1⟩,n8⟩;have F8:=Lib.hid (show OwnB w8 (.slice a1 l.length c1) l/\∀ g,Value.ownBlock (.slice a1 l.length c1)=some g->z.heap.size<=g/\g < w8.heap.size from ⟨f1.1,fun g e=>⟨Nat.le_trans NB.out.size (f1.2 g e),f1.1.lt e⟩⟩);have NB:=Lib.hid (NB.out.tr n8);have N8:=NB;have CE:=Lib.hid (show w8.cell? ⟨R,1,none⟩=some (.int .i64 ((q.last:Int)+1))/\w8.cell? ⟨w.heap.size,0,none⟩=some (.int .i64 fK)/\w8.cell? ⟨w.heap.size,1,none⟩=some (.int .u32 fI)/\w8.cell? ⟨w.heap.size,2,none⟩=some (.bool fX)/\w8.cell? ⟨w.heap.size,3,none⟩=some (.bool fR)/\w8.cell? ⟨w.heap.size,4,none⟩=some (.bool fB)/\w8.cell? ⟨w.heap.size,5,none⟩=some (.bool fE)/\w8.cell? ⟨w.heap.size,6,none⟩=some (.bool fS)/\w8.cell? ⟨w.heap.size,7,none⟩=some (.int .u8 fD)/\w8.cell? ⟨w.heap.size,8,none⟩=some (.int .u8 fV)/\w8.cell? ⟨w.heap.size,9,none⟩=some (.int .u32 fA)/\w8.cell? ⟨w.heap.size,10,none⟩=some (.slice a l.length cap) from ⟨(ZM.out.nb NB.out).blk.cell 1,(ZX.out.nb NB.out).cell 0,(ZX.out.nb NB.out).cell 1,(ZX.out.nb NB.out).cell 2,(ZX.out.nb NB.out).cell 3,(ZX.out.nb NB.out).cell 4,(ZX.out.nb NB.out).cell 5,(ZX.out.nb NB.out).cell 6,(ZX.out.nb NB.out).cell 7,(ZX.out.nb NB.out).cell 8,(ZX.out.nb NB.out).cell 9,(ZX.out.nb NB.out).cell 10⟩);clear f1 n8) | (go_at_call 40;refine (HPt.out _ a1 c1 (ZM.out.nb NB.out)).mono ?_;rintro e w9 ⟨rfl,v9,l9,q1,q2,q3,q4,q5⟩;have Q1:=Lib.hid q1;have Q2:=Lib.hid q2;have Q3:=Lib.hid q3;have Q4:=Lib.hid q4;have Q5:=Lib.hid q5;have CE:=Lib.hid (show w9.cell? ⟨R,1,none⟩=some (.int .i64 ((q.last:Int)+1))/\w9.cell? ⟨w.heap.size,0,none⟩=some (.int .i64 fK)/\w9.cell? ⟨w.heap.size,1,none⟩=some (.int .u32 fI)/\w9.cell? ⟨w.heap.size,2,none⟩=some (.bool fX)/\w9.cell? ⟨w.heap.size,3,none⟩=some (.bool fR)/\w9.cell? ⟨w.heap.size,4,none⟩=some (.bool fB)/\w9.cell? ⟨w.heap.size,5,none⟩=some (.bool fE)/\w9.cell? ⟨w.heap.size,6,none⟩=some (.bool fS)/\w9.cell? ⟨w.heap.size,7,none⟩=some (.int .u8 fD)/\w9.cell? ⟨w.heap.size,8,none⟩=some (.int .u8 fV)/\w9.cell? ⟨w.heap.size,9,none⟩=some (.int .u32 fA)/\w9.cell? ⟨w.heap.size,10,none⟩=some (.slice a l.length cap) from (fun (b:Blk w9 w.heap.size _ _)=>⟨q1.blk.cell 1,b.cell 0,b.cell 1,b.cell 2,b.cell 3,b.cell 4,b.cell 5,b.cell 6,b.cell 7,b.cell 8,b.cell 9,b.cell 10⟩) ((ZX.out.nb NB.out).keep q5 (fun e=>FR.out e)));clear q1 q2 q3 q4 q5))
    have z9:=CE.out.1
    clear x0 x1 x2 x3 x4 x5 x6 x7 x8 x9 x10 zc b0 b1 b2 b3 b4 b5 b6 b7 b8 b9 b10
    go_wp2
    go_ret2
    have hvs:∀ g,vs.ownBlock=some g->g < w.heap.size:=fun g e=>HM.out.at'.own.lt e
    have K9:Kp (fun k=>k=R\/vs.ownBlock=some k) w w9:=(ZK.out.tr (Kp.ofNb (F:=fun _=>False) NB.out) (fun _ e=>e.elim)).tr Q5.out (fun k e => .inl e)
    have hg9:∀ g,v9.ownBlock=some g->vs.ownBlock=some g\/w8.heap.size<=g:=Q4.out
    have hw8:w.heap.size < w8.heap.size:=Nat.lt_of_lt_of_le ZS.out NB.out.size
    have hap:=HM.out.ap
    refine⟨rfl,v9,l9,fun k=>D k\/Value.ownBlock (.slice a1 l.length c1)=some k,⟨?_,fun p hp => ?_,fun k hk => ?_,Q3.out,?_,hok'.out,by rw[e3.out];exact HM.out.room,fun x hx => ?_⟩,K9,fun k e=>(hg9 k e).imp id (fun h=>by omega),fun k e=>e.imp id (fun h=>by have:=(F8.out.2 k h).1;have:=ZS.out;omega)⟩
    ·rw[e3.out]
     have:=Q1.out
     rw[<- E1.out] at this
     exact this
    ·have hr0:RowI w9 l0 (fun k=>D k\/Value.ownBlock (.slice a1 l.length c1)=some k):=(HM.out.row.keep K9 (fun k hd e=>e.elim (hap k hd).1 (hap k hd).2.1)).up (fun k hd => .inl hd)
     have hr1:RowI w9 [((⟨q.last+1,⟨fK,fI,fX,fR,fB,fE,fS,fD,fV,fA⟩,l⟩,.slice a1 l.length c1):It × Value)] (fun k=>D k\/Value.ownBlock (.slice a1 l.length c1)=some k):=RowI.one (e:=⟨q.last+1,⟨fK,fI,fX,fR,fB,fE,fS,fD,fV,fA⟩,l⟩) (OwnB.datH (F8.out.1.keep Q5.out (fun g e q=>by
      have h1:=(F8.out.2 g e).1
      have h2:=ZS.out
      rcases q with rfl | q
      ·omega
      ·have:=hvs g q
       omega)) (fun g e => .inr e))
     exact (hr0.app hr1) p (Q2.out.mem_iff.1 hp)
    ·have h9:w8.heap.size<=w9.heap.size:=Q5.out.size
     rcases hk with hd | hk
     ·obtain⟨a1',a2',a3'⟩:=hap k hd
      refine⟨a1',fun e => ?_,by omega⟩
      rcases hg9 k e with q | q
      ·exact a2' q
      ·omega
     ·obtain⟨b1',b2'⟩:=F8.out.2 k hk
      have h2:=ZS.out
      refine⟨fun e=>by omega,fun e => ?_,by omega⟩
      rcases hg9 k e with q | q
      ·have:=hvs k q
       omega
      ·omega
    ·rw[e3.out]
     have p1:(l9.map Prod.fst).Perm ((l0++[((⟨q.last+1,⟨fK,fI,fX,fR,fB,fE,fS,fD,fV,fA⟩,l⟩,.slice a1 l.length c1):It × Value)]).map Prod.fst):=Q2.out.map _
     rw[List.map_append] at p1
     exact (p1.trans (List.perm_append_comm.trans (HM.out.perm.cons _))).trans (insI_perm _ _).symm
    ·rw[e3.out] at hx
     rcases (insI_mem _ _ _).1 hx with rfl | hx
     ·exact HW.out
     ·exact HM.out.wd x hx
end Go.Proofs.YtdedoeeekcfkpaaDoor
namespace Go.Proofs.YtdedoeeekcfkpaaDoor
set_option linter.unusedVariables false
set_option linter.unusedSimpArgs false
open Go.RowKit Go.Sort
theorem next_none (R:Nat) (fw:FuncId) (w:World) (eg:∀ args w,(callFunc fw args).run Tryd.prog w = .ok (.enter fw args) w) (hw:∀ w',Nb w w'->Calls Tryd.prog fw #[.pointer (some ⟨R,2,none⟩)] w' fun e w2=>e = .returned (.tuple #[.agg #[.int .u64 0,.int .i64 0,.int .i64 0,.int .u32 0,.bool false,.bool false,.bool false,.bool false,.bool false,.int .u8 0,.int .u8 0,.int .u32 0,.slice none 0 0],.bool false])/\Nb w' w2) :
    Calls Tryd.prog 33 #[.pointer (some ⟨R,0,none⟩),.func (.func fw) #[] #[]] w fun e w'=>e = .returned (.tuple #[.agg #[.int .i64 0,.int .i64 0,.int .u32 0,.bool false,.bool false,.bool false,.bool false,.bool false,.int .u8 0,.int .u8 0,.int .u32 0,.slice none 0 0],.int .i64 9])/\Nb w w':=by
 have HW:=Lib.hid hw
 obtain⟨y,hy⟩:∃ y,y=w.alloc (.cells #[.int .i64 0,.int .i64 0,.int .u32 0,.bool false,.bool false,.bool false,.bool false,.bool false,.int .u8 0,.int .u8 0,.int .u32 0,.slice none 0 0] 40):=⟨_,rfl⟩
 have X0:=Lib.hid (show Blk y w.heap.size #[.int .i64 0,.int .i64 0,.int .u32 0,.bool false,.bool false,.bool false,.bool false,.bool false,.int .u8 0,.int .u8 0,.int .u32 0,.slice none 0 0] 40 by rw[hy];exact Blk.new _ _ _)
 have NY:=Lib.hid (show Nb w y by rw[hy];exact Nb.rfl.al _)
 have HY:=Lib.hid hy
 clear hy hw
 go_enter Tryd.func33,Tryd.ntmps33
 go_wp2_with fail
 rw[<- HY.out]
 refine (HW.out _ NY.out).mono ?_
 rintro e w1 ⟨rfl,n1⟩
 have X2:=Lib.hid ((X0.out.nb n1).nb (Nb.rfl.al (.cells #[.int .u64 0,.int .i64 0,.int .i64 0,.int .u32 0,.bool false,.bool false,.bool false,.bool false,.bool false,.int .u8 0,.int .u8 0,.int .u32 0,.slice none 0 0] 79)))
 have N1:=Lib.hid ((NY.out.tr n1).al (.cells #[.int .u64 0,.int .i64 0,.int .i64 0,.int .u32 0,.bool false,.bool false,.bool false,.bool false,.bool false,.int .u8 0,.int .u8 0,.int .u32 0,.slice none 0 0] 79))
 clear n1
 go_wp2_with (refine wpList_store_row (by rfl) _ _ _ (by rfl) _ _ (by rfl) (by rfl) _ _ X2.out (by kernel_rfl) (by rfl) (by simp[Value.oneCell']) ?_)
 have hb:=Blk.rowH X2.out #[.int .i64 0,.int .i64 0,.int .u32 0,.bool false,.bool false,.bool false,.bool false,.bool false,.int .u8 0,.int .u8 0,.int .u32 0,.slice none 0 0]
 have kq:=Kp.rowH (w1.alloc (.cells #[.int .u64 0,.int .i64 0,.int .i64 0,.int .u32 0,.bool false,.bool false,.bool false,.bool false,.bool false,.int .u8 0,.int .u8 0,.int .u32 0,.slice none 0 0] 79)) w.heap.size #[.int .i64 0,.int .i64 0,.int .u32 0,.bool false,.bool false,.bool false,.bool false,.bool false,.int .u8 0,.int .u8 0,.int .u32 0,.slice none 0 0]
 change bodyPost _ _ _ _ _ (World.setRow (w1.alloc (.cells #[.int .u64 0,.int .i64 0,.int .i64 0,.int .u32 0,.bool false,.bool false,.bool false,.bool false,.bool false,.int .u8 0,.int .u8 0,.int .u32 0,.slice none 0 0] 79)) w.heap.size #[.int .i64 0,.int .i64 0,.int .u32 0,.bool false,.bool false,.bool false,.bool false,.bool false,.int .u8 0,.int .u8 0,.int .u32 0,.slice none 0 0])
 generalize World.setRow (w1.alloc (.cells #[.int .u64 0,.int .i64 0,.int .i64 0,.int .u32 0,.bool false,.bool false,.bool false,.bool false,.bool false,.int .u8 0,.int .u8 0,.int .u32 0,.slice none 0 0] 79)) w.heap.size #[.int .i64 0,.int .i64 0,.int .u32 0,.bool false,.bool false,.bool false,.bool false,.bool false,.int .u8 0,.int .u8 0,.int .u32 0,.slice none 0 0]=WW at hb kq ⊢
 obtain⟨e0,e1,e2,e3,e4,e5,e6,e7,e8,e9,e10,e11⟩:WW.cell? ⟨w.heap.size,0,none⟩=some (.int .i64 0)/\WW.cell? ⟨w.heap.size,1,none⟩=some (.int .i64 0)/\WW.cell? ⟨w.heap.size,2,none⟩=some (.int .u32 0)/\WW.cell? ⟨w.heap.size,3,none⟩=some (.bool false)/\WW.cell? ⟨w.heap.size,4,none⟩=some (.bool false)/\WW.cell? ⟨w.heap.size,5,none⟩=some (.bool false)/\WW.cell? ⟨w.heap.size,6,none⟩=some (.bool false)/\WW.cell? ⟨w.heap.size,7,none⟩=some (.bool false)/\WW.cell? ⟨w.heap.size,8,none⟩=some (.int .u8 0)/\WW.cell? ⟨w.heap.size,9,none⟩=some (.int .u8 0)/\WW.cell? ⟨w.heap.size,10,none⟩=some (.int .u32 0)/\WW.cell? ⟨w.heap.size,11,none⟩=some (.slice none 0 0):=⟨hb.cell 0,hb.cell 1,hb.cell 2,hb.cell 3,hb.cell 4,hb.cell 5,hb.cell 6,hb.cell 7,hb.cell 8,hb.cell 9,hb.cell 10,hb.cell 11⟩
 exact bodyPost_ret (v := .tuple #[.agg #[.int .i64 0,.int .i64 0,.int .u32 0,.bool false,.bool false,.bool false,.bool false,.bool false,.int .u8 0,.int .u8 0,.int .u32 0,.slice none 0 0],.int .i64 9]) (by simp[results,Tryd.results33,go_sem,e0,e1,e2,e3,e4,e5,e6,e7,e8,e9,e10,e11]) rfl ⟨rfl,N1.out.trans (kq.toBelow N1.out.size (fun k hk=>by omega))⟩
theorem next_some (R:Nat) (fw:FuncId) (x:It) (a:Option Addr) (cap:Nat) (w:World) (Post:World->World->Prop) (eg:∀ args w,(callFunc fw args).run Tryd.prog w = .ok (.enter fw args) w)
    (hw:∀ w',Nb w w'->Calls Tryd.prog fw #[.pointer (some ⟨R,2,none⟩)] w' fun e w2=>e = .returned (.tuple #[.agg (enC (x,.slice a x.l.length cap)).toArray,.bool true])/\Post w' w2)
    (hp:∀ w1 w2,Nb w w1->Post w1 w2->Bs w2 a cap x.l/\∃ F,Kp F w1 w2/\∀ k,F k->k < w.heap.size) (hl:x.l.length<=140737488355328) :
    Calls Tryd.prog 33 #[.pointer (some ⟨R,0,none⟩),.func (.func fw) #[] #[]] w fun e w'=>∃ a1 c1 w1 w2,e = .returned (.tuple #[itV x (.slice a1 x.l.length c1),.int .i64 0])/\Nb w w1/\Post w1 w2/\OwnB w' (.slice a1 x.l.length c1) x.l/\(∀ g,Value.ownBlock (.slice a1 x.l.length c1)=some g->w2.heap.size<=g)/\Kp (fun k=>w.heap.size<=k) w2 w':=by
 have HP:=Lib.hid hp
 have HI:=Lib.hid (fun w1 w2 w' (n1:Nb w w1) (p:Post w1 w2) (n2:Nb w2 w')=>item_any x a cap w' ((hp w1 w2 n1 p).1.below n2) hl)
 have HW:=Lib.hid hw
 obtain⟨xn,⟨xK,xI,xX,xR,xB,xE,xS,xD,xV,xA⟩,xl⟩:=x
 simp only[enC,itC,itV,itA] at HW HI ⊢
 generalize keyF ⟨xK,xI,xX,xR,xB,xE,xS,xD,xV,xA⟩=xk at HW HI ⊢
 obtain⟨y,hy⟩:∃ y,y=w.alloc (.cells #[.int .i64 0,.int .i64 0,.int .u32 0,.bool false,.bool false,.bool false,.bool false,.bool false,.int .u8 0,.int .u8 0,.int .u32 0,.slice none 0 0] 40):=⟨_,rfl⟩
 have X0:=Lib.hid (show Blk y w.heap.size #[.int .i64 0,.int .i64 0,.int .u32 0,.bool false,.bool false,.bool false,.bool false,.bool false,.int .u8 0,.int .u8 0,.int .u32 0,.slice none 0 0] 40 by rw[hy];exact Blk.new _ _ _)
 have NY:=Lib.hid (show Nb w y by rw[hy];exact Nb.rfl.al _)
 have HY:=Lib.hid hy
 clear hy hw hp hl
 go_enter Tryd.func33,Tryd.ntmps33
 go_wp2_with fail
 rw[<- HY.out]
 refine (HW.out _ NY.out).mono ?_
 rintro e w2 ⟨rfl,p2⟩
 have P2:=Lib.hid p2
 have BX:=Lib.hid (show Blk w2 w.heap.size #[.int .i64 0,.int .i64 0,.int .u32 0,.bool false,.bool false,.bool false,.bool false,.bool false,.int .u8 0,.int .u8 0,.int .u32 0,.slice none 0 0] 40 by
  obtain⟨F,k,hF⟩:=(HP.out _ _ NY.out p2).2
  exact X0.out.keep k (fun e=>by have:=hF _ e;omega))
 clear p2
 go_wp2_with fail
 obtain⟨y2,hy2⟩:∃ y2,y2=w2.alloc (.cells #[(.int .u64 ((xk:Nat):Int)),(.int .i64 ((xn:Nat):Int)),(.int .i64 xK),(.int .u32 xI),(.bool xX),(.bool xR),(.bool xB),(.bool xE),(.bool xS),(.int .u8 xD),(.int .u8 xV),(.int .u32 xA),(.slice a xl.length cap)] 79):=⟨_,rfl⟩
 have N2:=Lib.hid (show Nb w2 y2 by rw[hy2];exact Nb.rfl.al _)
 have HY2:=Lib.hid hy2
 rw[<- HY2.out]
 clear hy2
 refine (HI.out _ _ _ NY.out P2.out N2.out).mono ?_
 rintro e w3 ⟨⟨a1,c1,rfl,f3⟩,n3⟩
 have F3:=Lib.hid f3
 have X2:=Lib.hid ((BX.out.nb N2.out).nb n3)
 have N3:=Lib.hid (N2.out.tr n3)
 clear f3 n3
 go_wp2_with (refine wpList_store_row (by rfl) _ _ _ (by rfl) _ _ (by rfl) (by rfl) _ _ X2.out (by kernel_rfl) (by rfl) (by simp[Value.oneCell']) ?_)
 have hb:=Blk.rowH X2.out #[(.int .i64 (xn:Nat)),(.int .i64 xK),(.int .u32 xI),(.bool xX),(.bool xR),(.bool xB),(.bool xE),(.bool xS),(.int .u8 xD),(.int .u8 xV),(.int .u32 xA),(.slice a1 xl.length c1)]
 have kq:=Kp.rowH w3 w.heap.size #[(.int .i64 (xn:Nat)),(.int .i64 xK),(.int .u32 xI),(.bool xX),(.bool xR),(.bool xB),(.bool xE),(.bool xS),(.int .u8 xD),(.int .u8 xV),(.int .u32 xA),(.slice a1 xl.length c1)]
 change bodyPost _ _ _ _ _ (World.setRow w3 w.heap.size #[(.int .i64 (xn:Nat)),(.int .i64 xK),(.int .u32 xI),(.bool xX),(.bool xR),(.bool xB),(.bool xE),(.bool xS),(.int .u8 xD),(.int .u8 xV),(.int .u32 xA),(.slice a1 xl.length c1)])
 generalize World.setRow w3 w.heap.size #[(.int .i64 (xn:Nat)),(.int .i64 xK),(.int .u32 xI),(.bool xX),(.bool xR),(.bool xB),(.bool xE),(.bool xS),(.int .u8 xD),(.int .u8 xV),(.int .u32 xA),(.slice a1 xl.length c1)]=WW at hb kq ⊢
 obtain⟨e0,e1,e2,e3,e4,e5,e6,e7,e8,e9,e10,e11⟩:WW.cell? ⟨w.heap.size,0,none⟩=some (.int .i64 (xn:Nat))/\WW.cell? ⟨w.heap.size,1,none⟩=some (.int .i64 xK)/\WW.cell? ⟨w.heap.size,2,none⟩=some (.int .u32 xI)/\WW.cell? ⟨w.heap.size,3,none⟩=some (.bool xX)/\WW.cell? ⟨w.heap.size,4,none⟩=some (.bool xR)/\WW.cell? ⟨w.heap.size,5,none⟩=some (.bool xB)/\WW.cell? ⟨w.heap.size,6,none⟩=some (.bool xE)/\WW.cell? ⟨w.heap.size,7,none⟩=some (.bool xS)/\WW.cell? ⟨w.heap.size,8,none⟩=some (.int .u8 xD)/\WW.cell? ⟨w.heap.size,9,none⟩=some (.int .u8 xV)/\WW.cell? ⟨w.heap.size,10,none⟩=some (.int .u32 xA)/\WW.cell? ⟨w.heap.size,11,none⟩=some (.slice a1 xl.length c1):=⟨hb.cell 0,hb.cell 1,hb.cell 2,hb.cell 3,hb.cell 4,hb.cell 5,hb.cell 6,hb.cell 7,hb.cell 8,hb.cell 9,hb.cell 10,hb.cell 11⟩
 have hlt:=BX.out.lt
 have gF:∀ g,Value.ownBlock (.slice a1 xl.length c1)=some g->y2.heap.size<=g:=F3.out.2
 have hy2:w2.heap.size<=y2.heap.size:=N2.out.size
 exact bodyPost_ret (v := .tuple #[.agg #[(.int .i64 (xn:Nat)),(.int .i64 xK),(.int .u32 xI),(.bool xX),(.bool xR),(.bool xB),(.bool xE),(.bool xS),(.int .u8 xD),(.int .u8 xV),(.int .u32 xA),(.slice a1 xl.length c1)],.int .i64 0]) (by simp[results,Tryd.results33,go_sem,e0,e1,e2,e3,e4,e5,e6,e7,e8,e9,e10,e11]) rfl ⟨a1,c1,y,w2,rfl,NY.out,P2.out,F3.out.1.keep kq (fun g e q=>by have:=gF g e;omega),fun g e=>Nat.le_trans hy2 (gF g e),(Kp.ofNb N3.out).tr kq (fun k e => .inl (by omega))⟩
end Go.Proofs.YtdedoeeekcfkpaaDoor
namespace Go.Proofs.YtdedoeeekcfkpaaDoor
set_option linter.unusedVariables false
set_option linter.unusedSimpArgs false
open Go.RowKit Go.Sort
theorem cfF1:∀ args w,(callFunc 38 args).run Tryd.prog w = .ok (.enter 38 args) w:=hcf _ _ Tryd.func38 (by kernel_rfl) (by kernel_rfl)
theorem cfT1:∀ args w,(callFunc 34 args).run Tryd.prog w = .ok (.enter 34 args) w:=hcf _ _ Tryd.func34 (by kernel_rfl) (by kernel_rfl)
theorem head_wrap (R:Nat) (w:World) (P:It->Option Addr->Nat->Nat->Int->World->World->Prop)
    (hn:∀ w',Nb w w'->Calls Tryd.prog 33 #[.pointer (some ⟨R,0,none⟩),.func (.func 38) #[] #[]] w' fun e w2=>∃ x a n c er,e = .returned (.tuple #[itV x (.slice a n c),.int .i64 er])/\P x a n c er w' w2/\∃ F,Kp F w' w2/\∀ k,F k->k < w.heap.size\/w'.heap.size<=k) :
    Calls Tryd.prog 17 #[.pointer (some ⟨R,0,none⟩)] w fun e w'=>∃ x a n c er w1 w2,e = .returned (.tuple #[itV x (.slice a n c),.int .i64 er])/\Nb w w1/\w.heap.size < w1.heap.size/\P x a n c er w1 w2/\Kp (fun k=>k=w.heap.size) w2 w':=by
 have HN:=Lib.hid hn
 obtain⟨y,hy⟩:∃ y,y=w.alloc (.cells #[.int .i64 0,.int .i64 0,.int .u32 0,.bool false,.bool false,.bool false,.bool false,.bool false,.int .u8 0,.int .u8 0,.int .u32 0,.slice none 0 0] 40):=⟨_,rfl⟩
 have X0:=Lib.hid (show Blk y w.heap.size #[.int .i64 0,.int .i64 0,.int .u32 0,.bool false,.bool false,.bool false,.bool false,.bool false,.int .u8 0,.int .u8 0,.int .u32 0,.slice none 0 0] 40 by rw[hy];exact Blk.new _ _ _)
 have NY:=Lib.hid (show Nb w y by rw[hy];exact Nb.rfl.al _)
 have SY:=Lib.hid (show w.heap.size < y.heap.size by rw[hy,World.size_alloc];omega)
 have HY:=Lib.hid hy
 clear hy hn
 go_enter Tryd.func17,Tryd.ntmps17
 go_wp2_with fail
 rw[<- HY.out]
 refine (HN.out _ NY.out).mono ?_
 rintro e w2 ⟨x,a,n,c,er,rfl,p2,F,k2,hF⟩
 have P2:=Lib.hid p2
 have X2:=Lib.hid (X0.out.keep k2 (fun e=>by have:=hF _ e;have:=SY.out;omega))
 clear p2 k2 hF
 obtain⟨xn,⟨xK,xI,xX,xR,xB,xE,xS,xD,xV,xA⟩,xl⟩:=x
 simp only[itV,itA]
 go_wp2_with (refine wpList_store_row (by rfl) _ _ _ (by rfl) _ _ (by rfl) (by rfl) _ _ X2.out (by kernel_rfl) (by rfl) (by simp[Value.oneCell']) ?_)
 have hb:=Blk.rowH X2.out #[(.int .i64 (xn:Nat)),(.int .i64 xK),(.int .u32 xI),(.bool xX),(.bool xR),(.bool xB),(.bool xE),(.bool xS),(.int .u8 xD),(.int .u8 xV),(.int .u32 xA),(.slice a n c)]
 have kq:=Kp.rowH w2 w.heap.size #[(.int .i64 (xn:Nat)),(.int .i64 xK),(.int .u32 xI),(.bool xX),(.bool xR),(.bool xB),(.bool xE),(.bool xS),(.int .u8 xD),(.int .u8 xV),(.int .u32 xA),(.slice a n c)]
 change bodyPost _ _ _ _ _ (World.setRow w2 w.heap.size #[(.int .i64 (xn:Nat)),(.int .i64 xK),(.int .u32 xI),(.bool xX),(.bool xR),(.bool xB),(.bool xE),(.bool xS),(.int .u8 xD),(.int .u8 xV),(.int .u32 xA),(.slice a n c)])
 generalize World.setRow w2 w.heap.size #[(.int .i64 (xn:Nat)),(.int .i64 xK),(.int .u32 xI),(.bool xX),(.bool xR),(.bool xB),(.bool xE),(.bool xS),(.int .u8 xD),(.int .u8 xV),(.int .u32 xA),(.slice a n c)]=WW at hb kq ⊢
 obtain⟨e0,e1,e2,e3,e4,e5,e6,e7,e8,e9,e10,e11⟩:WW.cell? ⟨w.heap.size,0,none⟩=some (.int .i64 (xn:Nat))/\WW.cell? ⟨w.heap.size,1,none⟩=some (.int .i64 xK)/\WW.cell? ⟨w.heap.size,2,none⟩=some (.int .u32 xI)/\WW.cell? ⟨w.heap.size,3,none⟩=some (.bool xX)/\WW.cell? ⟨w.heap.size,4,none⟩=some (.bool xR)/\WW.cell? ⟨w.heap.size,5,none⟩=some (.bool xB)/\WW.cell? ⟨w.heap.size,6,none⟩=some (.bool xE)/\WW.cell? ⟨w.heap.size,7,none⟩=some (.bool xS)/\WW.cell? ⟨w.heap.size,8,none⟩=some (.int .u8 xD)/\WW.cell? ⟨w.heap.size,9,none⟩=some (.int .u8 xV)/\WW.cell? ⟨w.heap.size,10,none⟩=some (.int .u32 xA)/\WW.cell? ⟨w.heap.size,11,none⟩=some (.slice a n c):=⟨hb.cell 0,hb.cell 1,hb.cell 2,hb.cell 3,hb.cell 4,hb.cell 5,hb.cell 6,hb.cell 7,hb.cell 8,hb.cell 9,hb.cell 10,hb.cell 11⟩
 exact bodyPost_ret (v := .tuple #[.agg #[(.int .i64 (xn:Nat)),(.int .i64 xK),(.int .u32 xI),(.bool xX),(.bool xR),(.bool xB),(.bool xE),(.bool xS),(.int .u8 xD),(.int .u8 xV),(.int .u32 xA),(.slice a n c)],.int .i64 er]) (by simp[results,Tryd.results17,go_sem,e0,e1,e2,e3,e4,e5,e6,e7,e8,e9,e10,e11]) rfl ⟨⟨xn,⟨xK,xI,xX,xR,xB,xE,xS,xD,xV,xA⟩,xl⟩,a,n,c,er,y,w2,rfl,NY.out,SY.out,P2.out,kq⟩
theorem take_wrap (R:Nat) (w:World) (P:It->Option Addr->Nat->Nat->Int->World->World->Prop)
    (hn:∀ w',Nb w w'->Calls Tryd.prog 33 #[.pointer (some ⟨R,0,none⟩),.func (.func 34) #[] #[]] w' fun e w2=>∃ x a n c er,e = .returned (.tuple #[itV x (.slice a n c),.int .i64 er])/\P x a n c er w' w2/\∃ F,Kp F w' w2/\∀ k,F k->k < w.heap.size\/w'.heap.size<=k) :
    Calls Tryd.prog 12 #[.pointer (some ⟨R,0,none⟩)] w fun e w'=>∃ x a n c er w1 w2,e = .returned (.tuple #[itV x (.slice a n c),.int .i64 er])/\Nb w w1/\w.heap.size < w1.heap.size/\P x a n c er w1 w2/\Kp (fun k=>k=w.heap.size) w2 w':=by
 have HN:=Lib.hid hn
 obtain⟨y,hy⟩:∃ y,y=w.alloc (.cells #[.int .i64 0,.int .i64 0,.int .u32 0,.bool false,.bool false,.bool false,.bool false,.bool false,.int .u8 0,.int .u8 0,.int .u32 0,.slice none 0 0] 40):=⟨_,rfl⟩
 have X0:=Lib.hid (show Blk y w.heap.size #[.int .i64 0,.int .i64 0,.int .u32 0,.bool false,.bool false,.bool false,.bool false,.bool false,.int .u8 0,.int .u8 0,.int .u32 0,.slice none 0 0] 40 by rw[hy];exact Blk.new _ _ _)
 have NY:=Lib.hid (show Nb w y by rw[hy];exact Nb.rfl.al _)
 have SY:=Lib.hid (show w.heap.size < y.heap.size by rw[hy,World.size_alloc];omega)
 have HY:=Lib.hid hy
 clear hy hn
 go_enter Tryd.func12,Tryd.ntmps12
 go_wp2_with fail
 rw[<- HY.out]
 refine (HN.out _ NY.out).mono ?_
 rintro e w2 ⟨x,a,n,c,er,rfl,p2,F,k2,hF⟩
 have P2:=Lib.hid p2
 have X2:=Lib.hid (X0.out.keep k2 (fun e=>by have:=hF _ e;have:=SY.out;omega))
 clear p2 k2 hF
 obtain⟨xn,⟨xK,xI,xX,xR,xB,xE,xS,xD,xV,xA⟩,xl⟩:=x
 simp only[itV,itA]
 go_wp2_with (refine wpList_store_row (by rfl) _ _ _ (by rfl) _ _ (by rfl) (by rfl) _ _ X2.out (by kernel_rfl) (by rfl) (by simp[Value.oneCell']) ?_)
 have hb:=Blk.rowH X2.out #[(.int .i64 (xn:Nat)),(.int .i64 xK),(.int .u32 xI),(.bool xX),(.bool xR),(.bool xB),(.bool xE),(.bool xS),(.int .u8 xD),(.int .u8 xV),(.int .u32 xA),(.slice a n c)]
 have kq:=Kp.rowH w2 w.heap.size #[(.int .i64 (xn:Nat)),(.int .i64 xK),(.int .u32 xI),(.bool xX),(.bool xR),(.bool xB),(.bool xE),(.bool xS),(.int .u8 xD),(.int .u8 xV),(.int .u32 xA),(.slice a n c)]
 change bodyPost _ _ _ _ _ (World.setRow w2 w.heap.size #[(.int .i64 (xn:Nat)),(.int .i64 xK),(.int .u32 xI),(.bool xX),(.bool xR),(.bool xB),(.bool xE),(.bool xS),(.int .u8 xD),(.int .u8 xV),(.int .u32 xA),(.slice a n c)])
 generalize World.setRow w2 w.heap.size #[(.int .i64 (xn:Nat)),(.int .i64 xK),(.int .u32 xI),(.bool xX),(.bool xR),(.bool xB),(.bool xE),(.bool xS),(.int .u8 xD),(.int .u8 xV),(.int .u32 xA),(.slice a n c)]=WW at hb kq ⊢
 obtain⟨e0,e1,e2,e3,e4,e5,e6,e7,e8,e9,e10,e11⟩:WW.cell? ⟨w.heap.size,0,none⟩=some (.int .i64 (xn:Nat))/\WW.cell? ⟨w.heap.size,1,none⟩=some (.int .i64 xK)/\WW.cell? ⟨w.heap.size,2,none⟩=some (.int .u32 xI)/\WW.cell? ⟨w.heap.size,3,none⟩=some (.bool xX)/\WW.cell? ⟨w.heap.size,4,none⟩=some (.bool xR)/\WW.cell? ⟨w.heap.size,5,none⟩=some (.bool xB)/\WW.cell? ⟨w.heap.size,6,none⟩=some (.bool xE)/\WW.cell? ⟨w.heap.size,7,none⟩=some (.bool xS)/\WW.cell? ⟨w.heap.size,8,none⟩=some (.int .u8 xD)/\WW.cell? ⟨w.heap.size,9,none⟩=some (.int .u8 xV)/\WW.cell? ⟨w.heap.size,10,none⟩=some (.int .u32 xA)/\WW.cell? ⟨w.heap.size,11,none⟩=some (.slice a n c):=⟨hb.cell 0,hb.cell 1,hb.cell 2,hb.cell 3,hb.cell 4,hb.cell 5,hb.cell 6,hb.cell 7,hb.cell 8,hb.cell 9,hb.cell 10,hb.cell 11⟩
 exact bodyPost_ret (v := .tuple #[.agg #[(.int .i64 (xn:Nat)),(.int .i64 xK),(.int .u32 xI),(.bool xX),(.bool xR),(.bool xB),(.bool xE),(.bool xS),(.int .u8 xD),(.int .u8 xV),(.int .u32 xA),(.slice a n c)],.int .i64 er]) (by simp[results,Tryd.results12,go_sem,e0,e1,e2,e3,e4,e5,e6,e7,e8,e9,e10,e11]) rfl ⟨⟨xn,⟨xK,xI,xX,xR,xB,xE,xS,xD,xV,xA⟩,xl⟩,a,n,c,er,y,w2,rfl,NY.out,SY.out,P2.out,kq⟩
theorem QuM.first {w:World} {R:Nat} {vs:Value} {l:List (It × Value)} {q:Qu} {D:Nat->Prop} (h:QuM w R vs l q D) (h0:0 < l.length):∃ a cap,l.getD 0 dR=(q.head,.slice a q.head.l.length cap)/\DatP w a cap q.head.l D/\q.head.l.length<=2048/\∃ rest,q.its=q.head::rest:=by
 obtain⟨e,rest,er⟩:=first_is h.perm h.ok.sort h0 (fun c hc=>h.heap.min dR kpE c hc)
 have hm:l.getD 0 dR∈l:=by
  rw[show l.getD 0 dR=l[0] by simp[List.getD,h0]]
  exact List.getElem_mem h0
 obtain⟨a,cap,e2,d⟩:=h.row _ hm
 have eh:(l.getD 0 dR).1=q.head:=e
 rw[eh] at e2 d er
 exact⟨a,cap,Prod.ext eh e2,d,okF_small (h.ok.ok _ (by rw[er];exact List.mem_cons_self)),rest,er⟩
end Go.Proofs.YtdedoeeekcfkpaaDoor
namespace Go.Proofs.YtdedoeeekcfkpaaDoor
set_option linter.unusedVariables false
set_option linter.unusedSimpArgs false
open Go.RowKit Go.Sort
theorem putQ_any (v:Value) (q:Qu) (F:Nat->Prop) (f:Hd) (a:Option Addr) (cap:Nat) (l:List Nat) (w:World) (h:QuAt w v q F) (hl:Longer w) (hb:Bs w a cap l) (_hn:a=none->cap=0) (hw:WdX f) (hq:q.last<=1000000) :
    Calls Tryd.prog 19 #[v,.agg (f.cs (.slice a l.length cap))] w (TurnQ QuAt w v (q.put f l) (.tuple #[.int .i64 (q.putN f l:Nat),.int .i64 (q.putE f l:Nat)]) F):=by
 obtain⟨R,vs,l0,D,rfl,m,hF⟩:=h
 refine (putM_any R vs l0 q D f a cap l w m hl hb hw hq).mono ?_
 rintro e w' ⟨rfl,v',l',D',m',k,g1,g2⟩
 refine⟨fun k=>k=R\/v'.ownBlock=some k\/D' k,rfl,⟨R,v',l',D',rfl,m',fun k=>Iff.rfl⟩,k.mono fun k _ e=>(hF k).2 (e.imp id .inl),fun k hk => ?_⟩
 rcases hk with rfl | hk | hk
 ·exact .inl ((hF _).2 (.inl rfl))
 ·exact (g1 k hk).imp (fun e=>(hF k).2 (.inr (.inl e))) id
 ·exact (g2 k hk).imp (fun e=>(hF k).2 (.inr (.inr e))) id
theorem Bs.nil0 (w:World):Bs w none 0 []:=⟨Nat.le_refl _,by decide,by simp,by simp⟩
theorem QuM.empty {w:World} {R:Nat} {vs:Value} {l:List (It × Value)} {q:Qu} {D:Nat->Prop} (h:QuM w R vs l q D) (h0:q.its.length=0):l=[]/\q.head=dI/\q.headE=9/\q.take=q:=by
 have e:q.its=[]:=List.length_eq_zero_iff.1 h0
 refine⟨List.length_eq_zero_iff.1 (by rw[h.len.1];exact h0),by unfold Qu.head;rw[e];rfl,if_pos h0,?_⟩
 obtain⟨a,b,c⟩:=q
 simp only at e
 subst e
 rfl
theorem headQ_any (v:Value) (q:Qu) (F:Nat->Prop) (w:World) (h:QuAt w v q F) (_hl:Longer w):Calls Tryd.prog 17 #[v] w (HeadQ QuAt w v q q F):=by
 have hk:=fun w' (n:Nb w w')=>qu_keep h (Kp.ofNb (F:=fun _=>False) n) (by simp)
 have hlt:=qu_lt h
 obtain⟨R,vs,l,D,rfl,m,hF⟩:=h
 by_cases h0:q.its.length=0
 ·obtain⟨rfl,e1,e2,_⟩:=m.empty h0
  refine (head_wrap R w (fun x a n c er w1 w2=>x=dI/\a=none/\n=0/\c=0/\er=9/\Nb w1 w2) (fun w' n=>(next_none R 38 w' cfF1 (fun w2 n2=>wfirstE_none R _ _ vs w2 (m.nb (n.tr n2)).at')).mono ?_)).mono ?_
  ·rintro e w2 ⟨rfl,n2⟩
   exact⟨dI,none,0,0,9,rfl,⟨rfl,rfl,rfl,rfl,rfl,n2⟩,fun _=>False,Kp.ofNb n2,fun k e=>e.elim⟩
  ·rintro e w' ⟨x,a,n,c,er,w1,w2,rfl,n1,s1,⟨rfl,rfl,rfl,rfl,rfl,n2⟩,k⟩
   have nb:Nb w w':=(n1.tr n2).trans (k.toBelow (n1.tr n2).size (fun k e=>by omega))
   refine⟨F,none,0,fun _=>False,?_,?_,fun k e=>e.elim,hk _ nb,Kp.ofNb nb,fun k e => .inl e⟩
   ·rw[e1,e2];rfl
   ·rw[e1]
    exact⟨Bs.nil0 _,fun b o t e=>by cases e⟩
 ·obtain⟨a0,cap0,e1,d,h2,rest,er⟩:=m.first (by rw[m.len.1];omega)
  have hE:q.headE=0:=if_neg h0
  have hn:l.length=(l.length - 1)+1:=by have:=m.len.1;omega
  refine (head_wrap R w (fun x a n c er w1 w2=>x=q.head/\n=q.head.l.length/\er=0/\Nb w1 w2/\OwnB w2 (.slice a n c) q.head.l/\∀ g,Value.ownBlock (.slice a n c)=some g->w1.heap.size<=g) (fun w' n=>(next_some R 38 q.head a0 cap0 w' (fun w1 w2=>Nb w1 w2) cfF1 (fun w2 n2 => ?_) (fun w1 w2 n1 n2=>⟨d.1.below (n.tr (n1.tr n2)),fun _=>False,Kp.ofNb n2,fun k e=>e.elim⟩) (by omega)).mono ?_)).mono ?_
  ·have:=wfirstE_some R _ _ vs l (l.length - 1) w2 (m.nb (n.tr n2)).at' m.sl hn (by have:=m.len.2;omega)
   rw[e1] at this
   exact this
  ·rintro e w2 ⟨a1,c1,w3,w4,rfl,n3,n4,o,g,k⟩
   have nb:Nb w' w2:=(n3.tr n4).trans (k.toBelow (n3.tr n4).size (fun k e=>e))
   exact⟨q.head,a1,_,c1,0,rfl,⟨rfl,rfl,rfl,nb,o,fun g' e=>Nat.le_trans (n3.tr n4).size (g g' e)⟩,fun _=>False,Kp.ofNb nb,fun k e=>e.elim⟩
  ·rintro e w' ⟨x,a,n,c,er,w1,w2,rfl,n1,s1,⟨rfl,rfl,rfl,n2,o,g⟩,k⟩
   have nb:Nb w w':=(n1.tr n2).trans (k.toBelow (n1.tr n2).size (fun k e=>by omega))
   have o':=o.keep k (fun g' e q=>by have:=g g' e;omega)
   refine⟨F,a,c,fun k=>Value.ownBlock (.slice a q.head.l.length c)=some k,by rw[hE];rfl,OwnB.datH o' (fun g e=>e),fun k e=>⟨o'.lt e,fun f=>by have:=hlt k f;have:=g k e;omega,.inr (by have:=g k e;omega)⟩,hk _ nb,Kp.ofNb nb,fun k e => .inl e⟩
theorem takeQ_any (v:Value) (q:Qu) (F:Nat->Prop) (w:World) (h:QuAt w v q F) (_hl:Longer w):Calls Tryd.prog 12 #[v] w (HeadQ QuAt w v q q.take F):=by
 have hk:=fun w' (n:Nb w w')=>qu_keep h (Kp.ofNb (F:=fun _=>False) n) (by simp)
 have hlt:=qu_lt h
 obtain⟨R,vs,l,D,rfl,m,hF⟩:=h
 have hRl:=m.at'.blk.lt
 have hvl:=fun g (e:vs.ownBlock=some g)=>m.at'.own.lt e
 by_cases h0:q.its.length=0
 ·obtain⟨rfl,e1,e2,e3⟩:=m.empty h0
  refine (take_wrap R w (fun x a n c er w1 w2=>x=dI/\a=none/\n=0/\c=0/\er=9/\Nb w1 w2) (fun w' n=>(next_none R 34 w' cfT1 (fun w2 n2=>wtakeE_none R _ _ vs w2 (m.nb (n.tr n2)).at')).mono ?_)).mono ?_
  ·rintro e w2 ⟨rfl,n2⟩
   exact⟨dI,none,0,0,9,rfl,⟨rfl,rfl,rfl,rfl,rfl,n2⟩,fun _=>False,Kp.ofNb n2,fun k e=>e.elim⟩
  ·rintro e w' ⟨x,a,n,c,er,w1,w2,rfl,n1,s1,⟨rfl,rfl,rfl,rfl,rfl,n2⟩,k⟩
   have nb:Nb w w':=(n1.tr n2).trans (k.toBelow (n1.tr n2).size (fun k e=>by omega))
   refine⟨F,none,0,fun _=>False,?_,?_,fun k e=>e.elim,by rw[e3];exact hk _ nb,Kp.ofNb nb,fun k e => .inl e⟩
   ·rw[e1,e2];rfl
   ·rw[e1]
    exact⟨Bs.nil0 _,fun b o t e=>by cases e⟩
 ·obtain⟨a0,cap0,e1,d,h2,rest,er⟩:=m.first (by rw[m.len.1];omega)
  have hE:q.headE=0:=if_neg h0
  have hn:l.length=(l.length - 1)+1:=by have:=m.len.1;omega
  have ht:∀ w1 w2 v' l',Nb w w1->TookE w1 w2 R (.int .i64 (q.room:Nat)) (.int .i64 (q.last:Nat)) vs l (l.getD 0 dR) (l.length - 1) v' l'->RowI w2 l D:=fun w1 w2 v' l' n1 t=>(m.nb n1).row.keep t.kp (fun k hd e=>e.elim (m.ap k hd).1 (m.ap k hd).2.1)
  have hm0:l.getD 0 dR∈l:=by
   rw[show l.getD 0 dR=l[0]'(by omega) by simp[List.getD,show 0 < l.length by omega]]
   exact List.getElem_mem (by omega)
  refine (take_wrap R w (fun x a n c er w1 w2=>x=q.head/\n=q.head.l.length/\er=0/\(∃ w3 w4 v' l',Nb w1 w3/\TookE w3 w4 R (.int .i64 (q.room:Nat)) (.int .i64 (q.last:Nat)) vs l (l.getD 0 dR) (l.length - 1) v' l'/\Kp (fun k=>w1.heap.size<=k) w4 w2)/\OwnB w2 (.slice a n c) q.head.l/\∀ g,Value.ownBlock (.slice a n c)=some g->w1.heap.size<=g) (fun w' n=>(next_some R 34 q.head a0 cap0 w' (fun w1 w2=>∃ v' l',TookE w1 w2 R (.int .i64 (q.room:Nat)) (.int .i64 (q.last:Nat)) vs l (l.getD 0 dR) (l.length - 1) v' l') cfT1 (fun w2 n2 => ?_) (fun w1 w2 n1 t => ?_) (by omega)).mono ?_)).mono ?_
  ·have:=wtakeE_some R _ _ vs l (l.length - 1) w2 (m.nb (n.tr n2)).at' m.sl hn (by have:=m.len.2;omega) m.heap
   refine this.mono ?_
   rintro e w3 ⟨rfl,r⟩
   rw[e1]
   exact⟨rfl,by rw[<- e1];exact r⟩
  ·obtain⟨v',l',t⟩:=t
   obtain⟨a',c',e',dd⟩:=ht _ _ _ _ (n.tr n1) t _ hm0
   rw[e1] at e' dd
   simp only[Value.slice.injEq,true_and] at e'
   obtain⟨rfl,rfl⟩:=e'
   exact⟨dd.1,_,t.kp,fun k e=>by
    have:=n.size
    rcases e with rfl | e
    ·omega
    ·have:=hvl k e;omega⟩
  ·rintro e w2 ⟨a1,c1,w3,w4,rfl,n3,⟨v',l',t⟩,o,g,k⟩
   have hs:=t.kp.size
   have hs3:=n3.size
   exact⟨q.head,a1,_,c1,0,rfl,⟨rfl,rfl,rfl,⟨w3,w4,v',l',n3,t,k⟩,o,fun g' e=>by have:=g g' e;omega⟩,fun k=>k=R\/vs.ownBlock=some k\/w'.heap.size<=k,((Kp.ofNb n3).tr t.kp (fun k e => .inl (e.imp id .inl))).tr k (fun k e => .inl (.inr (.inr e))),fun k e=>by
    rcases e with rfl | e | e
    ·exact .inl hRl
    ·exact .inl (hvl k e)
    ·exact .inr e⟩
  ·rintro e w' ⟨x,a,n,c,er2,w1,w2,rfl,n1,s1,⟨rfl,rfl,rfl,⟨w3,w4,v',l',n3,t,k4⟩,o,g⟩,k⟩
   have o':=o.keep k (fun g' e q=>by have:=g g' e;omega)
   have k5:Kp (fun k=>k=R\/vs.ownBlock=some k) w w':=(((Kp.ofNb (n1.tr n3)).tr t.kp (fun k e => .inl e)).tr k4 (fun k e => .inr (by omega))).tr k (fun k e => .inr (by omega))
   have hsub:∀ p∈l',p∈l:=fun p hp=>t.perm.mem_iff.2 (List.mem_cons_of_mem _ hp)
   have hrest:(l'.map Prod.fst).Perm rest:=rest_is m.perm t.perm (by rw[e1];exact er)
   have htk:q.take.its=rest:=by show q.its.drop 1=rest;rw[er];rfl
   have hm':QuM w' R v' l' q.take D:=by
    refine⟨(t.at'.keep k4 (fun e=>by omega) (fun g' e q=>by have:=hvl g' (by rw[<- t.own];exact e);omega)).keep k (fun e=>by omega) (fun g' e q=>by have:=hvl g' (by rw[<- t.own];exact e);omega),fun p hp=>(m.row.keep k5 (fun k hd e=>e.elim (m.ap k hd).1 (m.ap k hd).2.1)) p (hsub p hp),fun k hd=>⟨(m.ap k hd).1,by rw[t.own];exact (m.ap k hd).2.1,Nat.lt_of_lt_of_le (m.ap k hd).2.2 k5.size⟩,t.heap,by rw[htk];exact hrest,m.ok.take,m.room,fun x hx=>m.wd x ?_⟩
    rw[htk] at hx
    rw[er]
    exact List.mem_cons_of_mem _ hx
   refine⟨F,a,c,fun k=>Value.ownBlock (.slice a q.head.l.length c)=some k,by rw[hE];rfl,OwnB.datH o' (fun g e=>e),fun k e=>⟨o'.lt e,fun f=>by have:=hlt k f;have:=g k e;omega,.inr (by have:=g k e;omega)⟩,⟨R,v',l',D,rfl,hm',fun k=>by rw[t.own];exact hF k⟩,k5.mono fun k _ e=>(hF k).2 (e.imp id .inl),fun k e => .inl e⟩
end Go.Proofs.YtdedoeeekcfkpaaDoor
namespace Go.Proofs.YtdedoeeekcfkpaaDoor
set_option linter.unusedVariables false
set_option linter.unusedSimpArgs false
open Go.RowKit Go.Sort
theorem cancelQ_nil (n:Int) (w:World) (_hl:Longer w):Calls Tryd.prog 15 #[.pointer none,.int .i64 n] w fun e w'=>e = .returned (.int .i64 1)/\Nb w w':=by
 go_enter Tryd.func15,Tryd.ntmps15
 go_wp2
 go_ret
 exact⟨rfl,Nb.rfl.al _⟩
theorem cancelM_any (R:Nat) (vs:Value) (l:List (It × Value)) (q:Qu) (D:Nat->Prop) (n:Int) (w:World) (m:QuM w R vs l q D) :
    Calls Tryd.prog 15 #[.pointer (some ⟨R,0,none⟩),.int .i64 n] w fun e w'=>e = .returned (.int .i64 (q.cancelE n:Nat))/\∃ v' l',QuM w' R v' l' (q.cancel n) D/\v'.ownBlock=vs.ownBlock/\Kp (fun k=>k=R\/vs.ownBlock=some k) w w':=by
 obtain⟨y,hy⟩:∃ y,y=w.alloc (.cells #[.int .i64 n] 3):=⟨_,rfl⟩
 have NY:=Lib.hid (show Nb w y by rw[hy];exact Nb.rfl.al _)
 have HD:=Lib.hid (wdrop_any R _ _ vs l w.heap.size n y (m.nb NY.out).at' m.sl (by rw[hy];exact (Blk.new w #[.int .i64 n] 3).cell 0) (by have:=m.len.2;omega) m.heap)
 have HY:=Lib.hid hy
 have M:=Lib.hid m
 clear hy m
 go_enter Tryd.func15,Tryd.ntmps15
 go_wp2_with fail
 rw[<- HY.out]
 refine HD.out.mono ?_
 rintro e w2 (⟨rfl,hno,n2⟩ | ⟨rfl,k,hk,hkn,v',l',t⟩)
 ·have N2:=Lib.hid (NY.out.tr n2)
  obtain⟨h1,h2⟩:=has_no M.out.perm hno
  have HE:=Lib.hid (show q.cancelE n=9/\q.cancel n=q from ⟨by unfold Qu.cancelE;rw[h1];rfl,by unfold Qu.cancel;rw[h2]⟩)
  clear n2 hno h1 h2
  go_wp2
  go_ret
  exact⟨by rw[HE.out.1];rfl,vs,l,by rw[HE.out.2];exact M.out.nb N2.out,rfl,Kp.ofNb N2.out⟩
 ·have hh:=has_of M.out.perm hk hkn
  have HE:=Lib.hid (show q.cancelE n=0 from by unfold Qu.cancelE;rw[hh];rfl)
  have K5:=Lib.hid (show Kp (fun k=>k=R\/vs.ownBlock=some k) w w2 from (Kp.ofNb NY.out).tr t.kp (fun k e => .inl e))
  have HP:=Lib.hid (drop_is M.out.perm M.out.ok.apart t.perm hkn)
  have T:=Lib.hid t
  clear t hh
  go_wp2
  go_ret
  have hap:=M.out.ap
  have hc:(q.cancel n).its=delI n q.its:=rfl
  refine⟨by rw[HE.out];rfl,v',l',⟨T.out.at',fun p hp=>(M.out.row.keep K5.out (fun k hd e=>e.elim (hap k hd).1 (hap k hd).2.1)) p (T.out.perm.mem_iff.2 (List.mem_cons_of_mem _ hp)),fun k hd=>⟨(hap k hd).1,by rw[T.out.own];exact (hap k hd).2.1,Nat.lt_of_lt_of_le (hap k hd).2.2 K5.out.size⟩,T.out.heap,HP.out,M.out.ok.cancel n,M.out.room,fun x hx=>M.out.wd x ?_⟩,T.out.own,K5.out⟩
  rw[hc] at hx
  exact (List.mem_filter.1 hx).1
theorem cancelQ_any (v:Value) (q:Qu) (F:Nat->Prop) (n:Int) (w:World) (h:QuAt w v q F) (_hl:Longer w) :
    Calls Tryd.prog 15 #[v,.int .i64 n] w (TurnQ QuAt w v (q.cancel n) (.int .i64 (q.cancelE n:Nat)) F):=by
 obtain⟨R,vs,l0,D,rfl,m,hF⟩:=h
 refine (cancelM_any R vs l0 q D n w m).mono ?_
 rintro e w' ⟨rfl,v',l',m',ho,k⟩
 exact⟨F,rfl,⟨R,v',l',D,rfl,m',fun k=>by rw[ho];exact hF k⟩,k.mono fun k _ e=>(hF k).2 (e.imp id .inl),fun k e => .inl e⟩
theorem RowI.bound {w:World} {l:List (It × Value)} {X:Nat->Prop} (h:RowI w l X):RowI w l (fun k=>X k/\k < w.heap.size):=fun p hp=>by
 obtain⟨a,c,e,d⟩:=h p hp
 refine⟨a,c,e,d.1,fun b o t ea hl=>⟨⟨(d.2 b o t ea hl).1,?_⟩,(d.2 b o t ea hl).2⟩⟩
 obtain⟨b',o',e',hc⟩:=d.1.hcells hl
 have e2:=ea.symm.trans e'
 simp only[Option.some.injEq,Addr.mk.injEq] at e2
 obtain⟨rfl,rfl,_⟩:=e2
 exact World.block_lt_of_cell? _ _ (hc 0 hl)
theorem allM_any (R:Nat) (vs:Value) (l:List (It × Value)) (q:Qu) (D:Nat->Prop) (w:World) (m:QuM w R vs l q D):Calls Tryd.prog 24 #[.pointer (some ⟨R,0,none⟩)] w (AllQ w q):=by
 have HA:=Lib.hid (wall_any R _ _ vs l w m.at' m.sl (by have:=m.len.2;omega))
 have M:=Lib.hid m
 clear m
 go_enter Tryd.func24,Tryd.ntmps24
 go_wp2_with fail
 refine HA.out.mono ?_
 rintro e w1 ⟨u,L,rfl,p1,p2,p3,p4,n1⟩
 have hmap:=all_is (l:=L) ((p1.map Prod.fst).trans M.out.perm) M.out.ok.sort M.out.ok.apart p2
 have HM:=Lib.hid hmap
 have hlen:L.length=q.its.length:=by rw[<- hmap,List.length_map]
 have hrow:RowI w1 L D:=fun p hp=>(M.out.row.nb n1) p (p1.mem_iff.1 hp)
 have hok:∀ p∈L,p.1.l.length<=2048:=fun p hp=>okF_small (M.out.ok.ok p.1 (by rw[<- hmap];exact List.mem_map_of_mem hp))
 have h64:L.length<=64:=by rw[hlen];exact Nat.le_trans M.out.ok.room M.out.room
 have HO:=Lib.hid p3
 have HR:=Lib.hid hrow
 have HK:=Lib.hid hok
 have N1:=Lib.hid n1
 obtain⟨a,cap,rfl,ha,_,_⟩:=p3.shape
 have HAd:=Lib.hid ha
 clear p1 p2 p3 p4 n1 hmap hrow hok ha
 go_wp2
 go_loopw [3,13] (fun v ix wr=>∃ (k:Nat) (A:List (It × Value)),k<=L.length/\ix = .int .i64 k/\OwnIQ wr v A/\A.map Prod.fst=(L.take k).map Prod.fst/\RowI wr A (fun k=>w1.heap.size<=k/\v.ownBlock≠some k)/\(∀ g,v.ownBlock=some g->w1.heap.size<=g)/\A.length=k/\Nb w1 wr) (fun v ix _=>L.length - (intOf ix).toNat)
 case atStart=>exact⟨0,[],Nat.zero_le _,rfl,OwnIQ.nil _,rfl,RowI.nil _ _,by simp[Value.ownBlock],rfl,Nb.rfl⟩
 case round =>
  obtain⟨k,A,hk,rfl,ho,hA,hr,hg,hAl,hn⟩:=hrel
  have OI:=Lib.hid ho
  have AM:=Lib.hid hA
  have RI:=Lib.hid hr
  have GI:=Lib.hid hg
  have AL:=Lib.hid hAl
  have NI:=Lib.hid hn
  clear ho hA hr hg hAl hn
  by_cases hlt:k < L.length
  ·obtain⟨g,rfl⟩:=HAd.out (by omega)
   have hrw:=(HO.out.nb NI.out).rw.2
   obtain⟨p,hp⟩:∃ p,L.getD k dR=p:=⟨_,rfl⟩
   have hpm:p∈L:=by
    rw[<- hp,show L.getD k dR=L[k] by simp[List.getD,hlt]]
    exact List.getElem_mem hlt
   obtain⟨xa,xm,ev,dd⟩:=(HR.out.nb NI.out) p hpm
   have HIt:=Lib.hid (fun w' (n:Nb wr w')=>item_any p.1 xa xm w' (dd.1.below n) (by have:=HK.out p hpm;omega))
   have HT:=Lib.hid (show (L.take (k+1)).map Prod.fst=(L.take k).map Prod.fst++[p.1] by
    have e:L.take (k+1)=L.take k++[p]:=by rw[List.take_add_one,<- hp];simp[List.getD,hlt]
    rw[e,List.map_append]
    rfl)
   obtain⟨⟨xn,⟨xK,xI,xX,xR,xB,xE,xS,xD,xV,xA⟩,xl⟩,xv⟩:=p
   simp only at ev dd
   subst ev
   obtain⟨⟨ma0,ma1,ma2,ma3,ma4,ma5,ma6,ma7,ma8,ma9,ma10,ma11,ma12⟩,-⟩:=hrw.at hlt hp
   simp only[enC,itC,itV,itA] at HIt
   generalize keyF ⟨xK,xI,xX,xR,xB,xE,xS,xD,xV,xA⟩=xk at *
   have hi:(k:Int) < (L.length:Int):=by omega
   clear hrw hp hpm dd
   go_wp2_with fail
   obtain⟨y2,hy2⟩:∃ y2,y2=wr.alloc (.cells #[(.int .u64 ((xk:Nat):Int)),(.int .i64 ((xn:Nat):Int)),(.int .i64 xK),(.int .u32 xI),(.bool xX),(.bool xR),(.bool xB),(.bool xE),(.bool xS),(.int .u8 xD),(.int .u8 xV),(.int .u32 xA),(.slice xa xl.length xm)] 79):=⟨_,rfl⟩
   have N2:=Lib.hid (show Nb wr y2 by rw[hy2];exact Nb.rfl.al _)
   have HY2:=Lib.hid hy2
   rw[<- HY2.out]
   clear hy2
   refine (HIt.out _ N2.out).mono ?_
   rintro e w3 ⟨⟨a1,c1,rfl,f3⟩,n3⟩
   have F3:=Lib.hid f3
   have N3:=Lib.hid (N2.out.tr n3)
   have S3:=Lib.hid n3.size
   clear f3 n3
   have CE:=Lib.hid (show ∀ w':World,Nb (w3.alloc (.cells #[(.int .i64 (xn:Nat)),(.int .i64 xK),(.int .u32 xI),(.bool xX),(.bool xR),(.bool xB),(.bool xE),(.bool xS),(.int .u8 xD),(.int .u8 xV),(.int .u32 xA),(.slice a1 xl.length c1)] 40)) w'->∀ j u,(itC ⟨xn,⟨xK,xI,xX,xR,xB,xE,xS,xD,xV,xA⟩,xl⟩ (.slice a1 xl.length c1))[j]? = some u->w'.cell? ⟨w3.heap.size,j,none⟩=some u from fun w' n j u hu=>by
    have b:=(Blk.new w3 #[(.int .i64 (xn:Nat)),(.int .i64 xK),(.int .u32 xI),(.bool xX),(.bool xR),(.bool xB),(.bool xE),(.bool xS),(.int .u8 xD),(.int .u8 xV),(.int .u32 xA),(.slice a1 xl.length c1)] 40).nb n
    rw[b.cell j]
    simpa [itC] using hu)
   have OW:=Lib.hid (fun w' (n:Nb w3 w')=>OI.out.nb (N3.out.tr n))
   go_wp2_with (at_builtin;refine wpList_appIQ_1 _ rfl (.tmp 17) (.tmp 20) rfl u3 A (by rfl) (OW.out _ (Nb.rfl.al _)) w3.heap.size ⟨xn,⟨xK,xI,xX,xR,xB,xE,xS,xD,xV,xA⟩,xl⟩ a1 xl.length c1 rfl (CE.out _ Nb.rfl) (by have:=AL.out;omega) ?_;intro v7 w7 ho7 hk7 hg7;have O7:=Lib.hid ho7;have K7:=Lib.hid hk7;have G7:=Lib.hid hg7;clear ho7 hk7 hg7)
   have n4:Nb wr (w3.alloc (.cells #[(.int .i64 (xn:Nat)),(.int .i64 xK),(.int .u32 xI),(.bool xX),(.bool xR),(.bool xB),(.bool xE),(.bool xS),(.int .u8 xD),(.int .u8 xV),(.int .u32 xA),(.slice a1 xl.length c1)] 40)):=N3.out.al _
   have nb7:Nb w1 w7:=(NI.out.tr n4).trans (K7.out.toBelow (NI.out.tr n4).size GI.out)
   have hsr:w1.heap.size<=wr.heap.size:=NI.out.size
   have hs2:wr.heap.size<=y2.heap.size:=N2.out.size
   have hs4:w3.heap.size<=(w3.alloc (.cells #[(.int .i64 (xn:Nat)),(.int .i64 xK),(.int .u32 xI),(.bool xX),(.bool xR),(.bool xB),(.bool xE),(.bool xS),(.int .u8 xD),(.int .u8 xV),(.int .u32 xA),(.slice a1 xl.length c1)] 40)).heap.size:=(Nb.rfl.al _:Nb w3 (w3.alloc (.cells #[(.int .i64 (xn:Nat)),(.int .i64 xK),(.int .u32 xI),(.bool xX),(.bool xR),(.bool xB),(.bool xE),(.bool xS),(.int .u8 xD),(.int .u8 xV),(.int .u32 xA),(.slice a1 xl.length c1)] 40))).size
   have hs34:y2.heap.size<=w3.heap.size:=S3.out
   have hu3:∀ g,u3.ownBlock=some g->g < wr.heap.size:=fun g e=>OI.out.lt e
   have hr0:RowI w7 A (fun k=>w1.heap.size<=k/\v7.ownBlock≠some k):=((RI.out.bound.nb n4).keep K7.out (fun k h e=>h.1.2 e)).up (fun k h=>⟨h.1.1,fun e=>(G7.out k e).elim h.1.2 (fun q=>by have:=h.2;omega)⟩)
   have hr1:RowI w7 [((⟨xn,⟨xK,xI,xX,xR,xB,xE,xS,xD,xV,xA⟩,xl⟩,.slice a1 xl.length c1):It × Value)] (fun k=>w1.heap.size<=k/\v7.ownBlock≠some k):=RowI.one (e:=⟨xn,⟨xK,xI,xX,xR,xB,xE,xS,xD,xV,xA⟩,xl⟩) (OwnB.datH ((F3.out.1.keep (F:=fun _=>False) (Kp.ofNb (Nb.rfl.al _)) (by simp)).keep K7.out (fun g e q=>by have:=F3.out.2 g e;have:=hu3 g q;omega)) (fun g e=>⟨by have:=F3.out.2 g e;omega,fun q=>by
    have h1:=F3.out.2 g e
    have h2:=F3.out.1.lt e
    rcases G7.out g q with q | q
    ·have:=hu3 g q;omega
    ·omega⟩))
   refine⟨⟨k+1,A++[((⟨xn,⟨xK,xI,xX,xR,xB,xE,xS,xD,xV,xA⟩,xl⟩,.slice a1 xl.length c1):It × Value)],by omega,by go_num,O7.out,?_,hr0.app hr1,fun g' e=>(G7.out g' e).elim (GI.out g') (fun h=>by omega),by rw[List.length_append,AL.out];rfl,nb7⟩,by simp[intOf];omega⟩
   rw[List.map_append,AM.out,HT.out]
   rfl
  ·obtain rfl:k=L.length:=by omega
   go_wp2
   go_ret
   obtain⟨a',c',rfl,hit⟩:=OI.out.its (X:=fun k=>w.heap.size<=k/\k < wr.heap.size) (RI.out.bound.up (fun k h=>⟨Nat.le_trans N1.out.size h.1.1,h.2⟩)) (fun g e=>⟨Nat.le_trans N1.out.size (GI.out g e),OI.out.lt e⟩)
   have em:A.map Prod.fst=q.its:=by rw[AM.out,List.take_length,HM.out]
   rw[em] at hit
   refine⟨a',c',_,?_,hit,fun k hk=>hk,N1.out.tr NI.out⟩
   rw[<- em,List.length_map]
   rfl
theorem allQ_any (v:Value) (q:Qu) (F:Nat->Prop) (w:World) (h:QuAt w v q F) (_hl:Longer w):Calls Tryd.prog 24 #[v] w (AllQ w q):=by
 obtain⟨R,vs,l,D,rfl,m,_⟩:=h
 exact allM_any R vs l q D w m
end Go.Proofs.YtdedoeeekcfkpaaDoor
