/- Package heaps: how many wait, one more, the first one, and it taken. Condition: at most a thousand. Package heaps: the first one, and it taken. Condition: at most a thousand. Package heaps: one dropped that is named by its number. Condition: at most a thousand. -/
import Derived.Test.YtdedoeeekcfkpaaDoorGhb
set_option maxHeartbeats 1600000
set_option maxRecDepth 100000
namespace Go.Proofs.YtdedoeeekcfkpaaDoor
set_option linter.unusedVariables false
set_option linter.unusedSimpArgs false
open Go.RowKit Go.Sort
theorem wlenE_any (R:Nat) (r s:Value) (v:Value) (l:List (It × Value)) (w:World) (h:HeE w R r s v l) :
    Calls Tryd.prog 43 #[.pointer (some ⟨R,2,none⟩)] w fun e w'=>e = .returned (.int .i64 (l.length:Nat))/\w'=w:=by
 have HL:=Lib.hid (hlenE_any R r s v l w h)
 clear h
 go_enter Tryd.func43,Tryd.ntmps43
 go_wp2_with fail
 refine HL.out.mono ?_
 rintro e w1 ⟨rfl,rfl⟩
 go_wp2
 go_ret
 exact⟨rfl,rfl⟩
theorem wputE_any (R:Nat) (r s:Value) (v:Value) (l:List (It × Value)) (p:It × Value) (w:World) (h:HeE w R r s v l) (hS:SlE l) (hp1:∃ a n k,p.2 = .slice a n k) (hl:l.length+1<=1000) (hh:HeQ dR kpE allQ l l.length) :
    Calls Tryd.prog 40 #[.pointer (some ⟨R,2,none⟩),.agg (enC p).toArray] w fun e w'=>e = .returned (.tuple #[])/\∃ v' l',HeE w' R r s v' l'/\l'.Perm (l++[p])/\HeQ dR kpE allQ l' l'.length/\(∀ g,v'.ownBlock=some g->v.ownBlock=some g\/w.heap.size<=g)/\Kp (fun k=>k=R\/v.ownBlock=some k) w w':=by
 have HP:=Lib.hid (fun w' (n:Nb w w')=>hhpushE_any R r s v l p w' (h.nb n) hS hp1 hl hh)
 obtain⟨⟨xn,⟨xK,xI,xX,xR,xB,xE,xS,xD,xV,xA⟩,xl⟩,xv⟩:=p
 simp only[enC,itC] at HP
 simp only[enC,itC]
 generalize keyF ⟨xK,xI,xX,xR,xB,xE,xS,xD,xV,xA⟩=xk at HP ⊢
 have hRl:=h.blk.lt
 have hgl:=fun g (e:v.ownBlock=some g)=>h.own.lt e
 obtain⟨y,hy⟩:∃ y,y=w.alloc (.cells #[(.int .u64 ((xk:Nat):Int)),(.int .i64 ((xn:Nat):Int)),(.int .i64 xK),(.int .u32 xI),(.bool xX),(.bool xR),(.bool xB),(.bool xE),(.bool xS),(.int .u8 xD),(.int .u8 xV),(.int .u32 xA),xv] 79):=⟨_,rfl⟩
 have BX:=Lib.hid (show Blk y w.heap.size #[(.int .u64 ((xk:Nat):Int)),(.int .i64 ((xn:Nat):Int)),(.int .i64 xK),(.int .u32 xI),(.bool xX),(.bool xR),(.bool xB),(.bool xE),(.bool xS),(.int .u8 xD),(.int .u8 xV),(.int .u32 xA),xv] 79 by rw[hy];exact Blk.new _ _ _)
 have NY:=Lib.hid (show Nb w y by rw[hy];exact Nb.rfl.al _)
 have HY:=Lib.hid hy
 have NR:=Lib.hid (show ∀ k,(k=R\/v.ownBlock=some k)->k < w.heap.size from fun k e=>e.elim (fun e=>by rw[e];exact hRl) (hgl k))
 clear hy hgl hRl
 clear h hS hp1 hh
 go_enter Tryd.func40,Tryd.ntmps40
 go_wp2_with fail
 rw[<- HY.out]
 have ND:=Lib.hid (show Nb w y.drew from NY.out.tr (Below.drew (Below.refl _ _)))
 have BD:=Lib.hid (BX.out.nb (Below.drew (Below.refl _ _):Nb y y.drew))
 obtain⟨a0,a1,a2,a3,a4,a5,a6,a7,a8,a9,a10,a11,a12⟩:y.cell? ⟨w.heap.size,0,none⟩=some (.int .u64 ((xk:Nat):Int))/\y.cell? ⟨w.heap.size,1,none⟩=some (.int .i64 ((xn:Nat):Int))/\y.cell? ⟨w.heap.size,2,none⟩=some (.int .i64 xK)/\y.cell? ⟨w.heap.size,3,none⟩=some (.int .u32 xI)/\y.cell? ⟨w.heap.size,4,none⟩=some (.bool xX)/\y.cell? ⟨w.heap.size,5,none⟩=some (.bool xR)/\y.cell? ⟨w.heap.size,6,none⟩=some (.bool xB)/\y.cell? ⟨w.heap.size,7,none⟩=some (.bool xE)/\y.cell? ⟨w.heap.size,8,none⟩=some (.bool xS)/\y.cell? ⟨w.heap.size,9,none⟩=some (.int .u8 xD)/\y.cell? ⟨w.heap.size,10,none⟩=some (.int .u8 xV)/\y.cell? ⟨w.heap.size,11,none⟩=some (.int .u32 xA)/\y.cell? ⟨w.heap.size,12,none⟩=some xv:=⟨BX.out.cell 0,BX.out.cell 1,BX.out.cell 2,BX.out.cell 3,BX.out.cell 4,BX.out.cell 5,BX.out.cell 6,BX.out.cell 7,BX.out.cell 8,BX.out.cell 9,BX.out.cell 10,BX.out.cell 11,BX.out.cell 12⟩
 go_region_held3 (fun w'=>w'.cell? ⟨w.heap.size,0,none⟩=some (.int .u64 ((xk:Nat):Int))/\w'.cell? ⟨w.heap.size,1,none⟩=some (.int .i64 ((xn:Nat):Int))/\w'.cell? ⟨w.heap.size,2,none⟩=some (.int .i64 xK)/\w'.cell? ⟨w.heap.size,3,none⟩=some (.int .u32 xI)/\w'.cell? ⟨w.heap.size,4,none⟩=some (.bool xX)/\w'.cell? ⟨w.heap.size,5,none⟩=some (.bool xR)/\w'.cell? ⟨w.heap.size,6,none⟩=some (.bool xB)/\w'.cell? ⟨w.heap.size,7,none⟩=some (.bool xE)/\w'.cell? ⟨w.heap.size,8,none⟩=some (.bool xS)/\w'.cell? ⟨w.heap.size,9,none⟩=some (.int .u8 xD)/\w'.cell? ⟨w.heap.size,10,none⟩=some (.int .u8 xV)/\w'.cell? ⟨w.heap.size,11,none⟩=some (.int .u32 xA)/\w'.cell? ⟨w.heap.size,12,none⟩=some xv) (first | go_keep | exact (fun (b:Blk w7 w.heap.size _ _)=>⟨b.cell 0,b.cell 1,b.cell 2,b.cell 3,b.cell 4,b.cell 5,b.cell 6,b.cell 7,b.cell 8,b.cell 9,b.cell 10,b.cell 11,b.cell 12⟩) (BD.out.keep q5 (fun e=>Nat.lt_irrefl _ (NR.out _ e)))) ((go_at_call 60;refine (HP.out _ ND.out).mono ?_;rintro e w7 ⟨rfl,v7,l7,q1,q2,q3,q4,q5⟩))
 have Q1:=Lib.hid q1
 have Q2:=Lib.hid q2
 have Q3:=Lib.hid q3
 have Q4:=Lib.hid (show ∀ g,v7.ownBlock=some g->v.ownBlock=some g\/w.heap.size<=g from fun g e=>(q4 g e).imp id (fun h=>Nat.le_trans ND.out.size h))
 have Q5:=Lib.hid ((Kp.ofNb ND.out).tr q5 (fun k e => .inl e))
 clear q1 q2 q3 q4 q5
 go_wp2
 go_end0
 exact⟨rfl,v7,l7,Q1.out,Q2.out,Q3.out,Q4.out,Q5.out⟩
end Go.Proofs.YtdedoeeekcfkpaaDoor
namespace Go.Proofs.YtdedoeeekcfkpaaDoor
set_option linter.unusedVariables false
set_option linter.unusedSimpArgs false
open Go.RowKit Go.Sort
theorem Blk.rowH {w:World} {R:Nat} {cs:Array Value} {t:TypeId} (h:Blk w R cs t) (cs':Array Value):Blk (w.setRow R cs') R cs' t:=setRow_heap w R cs cs' t (0,0) h
theorem Kp.rowH (w:World) (R:Nat) (cs':Array Value):Kp (fun b=>b=R) w (w.setRow R cs') :=
 ⟨setRow_os w R cs',setRow_tape w R cs',setRow_output w R cs',by rw[setRow_size];exact Nat.le_refl _,fun k _ hn=>setRow_other w R k cs' hn⟩
theorem wfirstE_none (R:Nat) (r s:Value) (v:Value) (w:World) (h:HeE w R r s v []) :
    Calls Tryd.prog 38 #[.pointer (some ⟨R,2,none⟩)] w fun e w'=>e = .returned (.tuple #[.agg #[.int .u64 0,.int .i64 0,.int .i64 0,.int .u32 0,.bool false,.bool false,.bool false,.bool false,.bool false,.int .u8 0,.int .u8 0,.int .u32 0,.slice none 0 0],.bool false])/\Nb w w':=by
 have HL:=Lib.hid (fun w' (n:Nb w w')=>wlenE_any R r s v [] w' (h.nb n))
 clear h
 simp only[List.length_nil] at HL
 go_enter Tryd.func38,Tryd.ntmps38
 go_wp2_with fail
 refine (HL.out _ (Nb.rfl.al _)).mono ?_
 rintro e w1 ⟨rfl,rfl⟩
 go_wp2
 refine bodyPost_ret (v := .tuple #[.agg #[.int .u64 0,.int .i64 0,.int .i64 0,.int .u32 0,.bool false,.bool false,.bool false,.bool false,.bool false,.int .u8 0,.int .u8 0,.int .u32 0,.slice none 0 0],.bool false]) (by simp[results,Tryd.results38,go_sem]) rfl ?_
 exact⟨rfl,(Nb.rfl.al _).al _⟩
theorem wfirstE_some (R:Nat) (r s:Value) (v:Value) (l:List (It × Value)) (n:Nat) (w:World) (h:HeE w R r s v l) (hS:SlE l) (hn:l.length=n+1) (hl:l.length<=1000) :
    Calls Tryd.prog 38 #[.pointer (some ⟨R,2,none⟩)] w fun e w'=>e = .returned (.tuple #[.agg (enC (l.getD 0 dR)).toArray,.bool true])/\Nb w w':=by
 have HL:=Lib.hid (fun w' (n:Nb w w')=>wlenE_any R r s v l w' (h.nb n))
 obtain⟨g,cap,rfl,hr,hgR,hn1,hn2⟩:=h.row (by omega)
 have mc:=h.blk.cell 2
 simp only[List.getElem?_toArray,List.getElem?_cons_zero,List.getElem?_cons_succ] at mc
 have hRl:=h.blk.lt
 have hgl:=hr.lt
 obtain⟨p,hp⟩:∃ q,l.getD 0 dR=q:=⟨_,rfl⟩
 rw[hp]
 obtain⟨⟨xn,⟨xK,xI,xX,xR,xB,xE,xS,xD,xV,xA⟩,xl⟩,xv⟩:=p
 obtain⟨⟨ma0,ma1,ma2,ma3,ma4,ma5,ma6,ma7,ma8,ma9,ma10,ma11,ma12⟩,-⟩:=hr.at (by omega) hp
 obtain⟨xa,xm,xc,rfl⟩:=hS.at (by omega) hp
 simp only[enC,itC]
 generalize keyF ⟨xK,xI,xX,xR,xB,xE,xS,xD,xV,xA⟩=xk at *
 simp only[Nat.zero_mul,Nat.zero_add] at ma0 ma1 ma2 ma3 ma4 ma5 ma6 ma7 ma8 ma9 ma10 ma11 ma12
 rw[hn] at HL mc
 clear h hr hp hn1 hS
 rw[hn] at hl
 go_enter Tryd.func38,Tryd.ntmps38
 go_wp2_with fail
 refine (HL.out _ (Nb.rfl.al _)).mono ?_
 rintro e w1 ⟨rfl,rfl⟩
 have d1:(((n+1:Nat):Int)==0)=false:=by simp;omega
 go_wp2
 refine bodyPost_ret (v := .tuple #[.agg #[(.int .u64 ((xk:Nat):Int)),(.int .i64 ((xn:Nat):Int)),(.int .i64 xK),(.int .u32 xI),(.bool xX),(.bool xR),(.bool xB),(.bool xE),(.bool xS),(.int .u8 xD),(.int .u8 xV),(.int .u32 xA),(.slice xa xm xc)],.bool true]) (by simp[results,Tryd.results38,go_sem]) rfl ?_
 exact⟨rfl,Nb.rfl.al _⟩
theorem wtakeE_none (R:Nat) (r s:Value) (v:Value) (w:World) (h:HeE w R r s v []) :
    Calls Tryd.prog 34 #[.pointer (some ⟨R,2,none⟩)] w fun e w'=>e = .returned (.tuple #[.agg #[.int .u64 0,.int .i64 0,.int .i64 0,.int .u32 0,.bool false,.bool false,.bool false,.bool false,.bool false,.int .u8 0,.int .u8 0,.int .u32 0,.slice none 0 0],.bool false])/\Nb w w':=by
 have HL:=Lib.hid (fun w' (n:Nb w w')=>wfirstE_none R r s v w' (h.nb n))
 clear h
 obtain⟨y,hy⟩:∃ y,y=w.alloc (.cells #[.int .u64 0,.int .i64 0,.int .i64 0,.int .u32 0,.bool false,.bool false,.bool false,.bool false,.bool false,.int .u8 0,.int .u8 0,.int .u32 0,.slice none 0 0] 79):=⟨_,rfl⟩
 have X0:=Lib.hid (show Blk y w.heap.size #[.int .u64 0,.int .i64 0,.int .i64 0,.int .u32 0,.bool false,.bool false,.bool false,.bool false,.bool false,.int .u8 0,.int .u8 0,.int .u32 0,.slice none 0 0] 79 by rw[hy];exact Blk.new _ _ _)
 have NY:=Lib.hid (show Nb w y by rw[hy];exact Nb.rfl.al _)
 have HY:=Lib.hid hy
 clear hy
 go_enter Tryd.func34,Tryd.ntmps34
 go_wp2_with fail
 rw[<- HY.out]
 refine (HL.out _ NY.out).mono ?_
 rintro e w1 ⟨rfl,n1⟩
 have X2:=Lib.hid ((X0.out.nb n1).nb (Nb.rfl.al (.cells #[.int .u64 0,.int .i64 0,.int .i64 0,.int .u32 0,.bool false,.bool false,.bool false,.bool false,.bool false,.int .u8 0,.int .u8 0,.int .u32 0,.slice none 0 0] 79)))
 have N1:=Lib.hid ((NY.out.tr n1).al (.cells #[.int .u64 0,.int .i64 0,.int .i64 0,.int .u32 0,.bool false,.bool false,.bool false,.bool false,.bool false,.int .u8 0,.int .u8 0,.int .u32 0,.slice none 0 0] 79))
 clear n1
 go_wp2_with (refine wpList_store_row (by rfl) _ _ _ (by rfl) _ _ (by rfl) (by rfl) _ _ X2.out (by kernel_rfl) (by rfl) (by simp[Value.oneCell']) ?_)
 have hb:=Blk.rowH X2.out #[.int .u64 0,.int .i64 0,.int .i64 0,.int .u32 0,.bool false,.bool false,.bool false,.bool false,.bool false,.int .u8 0,.int .u8 0,.int .u32 0,.slice none 0 0]
 have kq:=Kp.rowH (w1.alloc (.cells #[.int .u64 0,.int .i64 0,.int .i64 0,.int .u32 0,.bool false,.bool false,.bool false,.bool false,.bool false,.int .u8 0,.int .u8 0,.int .u32 0,.slice none 0 0] 79)) w.heap.size #[.int .u64 0,.int .i64 0,.int .i64 0,.int .u32 0,.bool false,.bool false,.bool false,.bool false,.bool false,.int .u8 0,.int .u8 0,.int .u32 0,.slice none 0 0]
 change bodyPost _ _ _ _ _ (World.setRow (w1.alloc (.cells #[.int .u64 0,.int .i64 0,.int .i64 0,.int .u32 0,.bool false,.bool false,.bool false,.bool false,.bool false,.int .u8 0,.int .u8 0,.int .u32 0,.slice none 0 0] 79)) w.heap.size #[.int .u64 0,.int .i64 0,.int .i64 0,.int .u32 0,.bool false,.bool false,.bool false,.bool false,.bool false,.int .u8 0,.int .u8 0,.int .u32 0,.slice none 0 0])
 generalize World.setRow (w1.alloc (.cells #[.int .u64 0,.int .i64 0,.int .i64 0,.int .u32 0,.bool false,.bool false,.bool false,.bool false,.bool false,.int .u8 0,.int .u8 0,.int .u32 0,.slice none 0 0] 79)) w.heap.size #[.int .u64 0,.int .i64 0,.int .i64 0,.int .u32 0,.bool false,.bool false,.bool false,.bool false,.bool false,.int .u8 0,.int .u8 0,.int .u32 0,.slice none 0 0]=WW at hb kq ⊢
 obtain⟨e0,e1,e2,e3,e4,e5,e6,e7,e8,e9,e10,e11,e12⟩:WW.cell? ⟨w.heap.size,0,none⟩=some (.int .u64 0)/\WW.cell? ⟨w.heap.size,1,none⟩=some (.int .i64 0)/\WW.cell? ⟨w.heap.size,2,none⟩=some (.int .i64 0)/\WW.cell? ⟨w.heap.size,3,none⟩=some (.int .u32 0)/\WW.cell? ⟨w.heap.size,4,none⟩=some (.bool false)/\WW.cell? ⟨w.heap.size,5,none⟩=some (.bool false)/\WW.cell? ⟨w.heap.size,6,none⟩=some (.bool false)/\WW.cell? ⟨w.heap.size,7,none⟩=some (.bool false)/\WW.cell? ⟨w.heap.size,8,none⟩=some (.bool false)/\WW.cell? ⟨w.heap.size,9,none⟩=some (.int .u8 0)/\WW.cell? ⟨w.heap.size,10,none⟩=some (.int .u8 0)/\WW.cell? ⟨w.heap.size,11,none⟩=some (.int .u32 0)/\WW.cell? ⟨w.heap.size,12,none⟩=some (.slice none 0 0):=⟨hb.cell 0,hb.cell 1,hb.cell 2,hb.cell 3,hb.cell 4,hb.cell 5,hb.cell 6,hb.cell 7,hb.cell 8,hb.cell 9,hb.cell 10,hb.cell 11,hb.cell 12⟩
 exact bodyPost_ret (v := .tuple #[.agg #[.int .u64 0,.int .i64 0,.int .i64 0,.int .u32 0,.bool false,.bool false,.bool false,.bool false,.bool false,.int .u8 0,.int .u8 0,.int .u32 0,.slice none 0 0],.bool false]) (by simp[results,Tryd.results34,go_sem,e0,e1,e2,e3,e4,e5,e6,e7,e8,e9,e10,e11,e12]) rfl ⟨rfl,N1.out.trans (kq.toBelow N1.out.size (fun k hk=>by omega))⟩
theorem wtakeE_some (R:Nat) (r s:Value) (v:Value) (l:List (It × Value)) (n:Nat) (w:World) (h:HeE w R r s v l) (hS:SlE l) (hn:l.length=n+1) (hl:l.length<=1000) (hh:HeQ dR kpE allQ l l.length) :
    Calls Tryd.prog 34 #[.pointer (some ⟨R,2,none⟩)] w fun e w'=>e = .returned (.tuple #[.agg (enC (l.getD 0 dR)).toArray,.bool true])/\∃ v' l',TookE w w' R r s v l (l.getD 0 dR) n v' l':=by
 have HF:=Lib.hid (fun w' (m:Nb w w')=>wfirstE_some R r s v l n w' (h.nb m) hS hn hl)
 have HP:=Lib.hid (fun w' (m:Nb w w')=>hhpopE_any R r s v l n w' (h.nb m) hS hn hl hh)
 have hRl:=h.blk.lt
 have hgl:=fun g (e:v.ownBlock=some g)=>h.own.lt e
 have NR:=Lib.hid (show ∀ k,(k=R\/v.ownBlock=some k)->k < w.heap.size from fun k e=>e.elim (fun e=>by rw[e];exact hRl) (hgl k))
 have TK:=Lib.hid (show ∀ w1 w2 v' l',Nb w w1->TookE w1 w2 R r s v l (l.getD 0 dR) n v' l'->∀ w3,Kp (fun k=>k=w.heap.size) w2 w3->TookE w w3 R r s v l (l.getD 0 dR) n v' l' from fun w1 w2 v' l' m t w3 k=>by
  have ho:∀ g,v'.ownBlock=some g->g < w.heap.size:=fun g e=>NR.out g (.inr (by rw[<- t.own];exact e))
  refine⟨t.at'.keep k (fun e=>by omega) (fun g e q=>by have:=ho g e;omega),t.len,t.perm,t.heap,t.own,?_⟩
  exact ((Kp.ofNb m).tr t.kp (fun k e => .inl e)).tr k (fun k e => .inr (by omega)))
 have hp1:∃ a n k,(l.getD 0 dR).2 = .slice a n k:=hS _ (by rw[show l.getD 0 dR=l[0]'(by omega) by simp[List.getD,show 0 < l.length by omega]];exact List.getElem_mem (by omega))
 clear h hRl hgl hS
 obtain⟨p,hp⟩:∃ q,l.getD 0 dR=q:=⟨_,rfl⟩
 rw[hp] at HF HP TK hp1 ⊢
 clear hp
 obtain⟨⟨xn,⟨xK,xI,xX,xR,xB,xE,xS,xD,xV,xA⟩,xl⟩,xv⟩:=p
 obtain⟨xa,xm,xc,rfl⟩:=hp1
 simp only[enC,itC] at HF HP ⊢
 generalize keyF ⟨xK,xI,xX,xR,xB,xE,xS,xD,xV,xA⟩=xk at HF HP ⊢
 obtain⟨y,hy⟩:∃ y,y=w.alloc (.cells #[.int .u64 0,.int .i64 0,.int .i64 0,.int .u32 0,.bool false,.bool false,.bool false,.bool false,.bool false,.int .u8 0,.int .u8 0,.int .u32 0,.slice none 0 0] 79):=⟨_,rfl⟩
 have X0:=Lib.hid (show Blk y w.heap.size #[.int .u64 0,.int .i64 0,.int .i64 0,.int .u32 0,.bool false,.bool false,.bool false,.bool false,.bool false,.int .u8 0,.int .u8 0,.int .u32 0,.slice none 0 0] 79 by rw[hy];exact Blk.new _ _ _)
 have NY:=Lib.hid (show Nb w y by rw[hy];exact Nb.rfl.al _)
 have HY:=Lib.hid hy
 have SY:=Lib.hid (show y.heap.size=w.heap.size+1 by rw[hy,World.size_alloc])
 clear hy
 go_enter Tryd.func34,Tryd.ntmps34
 go_wp2_with fail
 rw[<- HY.out]
 refine (HF.out _ NY.out).mono ?_
 rintro e w1 ⟨rfl,n1⟩
 go_wp2_with fail
 obtain⟨y1,hy1⟩:∃ y1,y1=w1.alloc (.cells #[(.int .u64 ((xk:Nat):Int)),(.int .i64 ((xn:Nat):Int)),(.int .i64 xK),(.int .u32 xI),(.bool xX),(.bool xR),(.bool xB),(.bool xE),(.bool xS),(.int .u8 xD),(.int .u8 xV),(.int .u32 xA),(.slice xa xm xc)] 79):=⟨_,rfl⟩
 have X1:=Lib.hid (show Blk y1 w1.heap.size #[(.int .u64 ((xk:Nat):Int)),(.int .i64 ((xn:Nat):Int)),(.int .i64 xK),(.int .u32 xI),(.bool xX),(.bool xR),(.bool xB),(.bool xE),(.bool xS),(.int .u8 xD),(.int .u8 xV),(.int .u32 xA),(.slice xa xm xc)] 79 by rw[hy1];exact Blk.new _ _ _)
 have N1:=Lib.hid (show Nb y y1 by rw[hy1];exact n1.al _)
 have S1:=Lib.hid (show w.heap.size+1<=w1.heap.size by rw[<- SY.out];exact n1.size)
 rw[<- hy1]
 clear hy1 n1
 refine (HP.out _ (NY.out.tr N1.out)).mono ?_
 rintro e w2 ⟨rfl,v2,l2,t2⟩
 have T2:=Lib.hid t2
 have X2:=Lib.hid ((X0.out.nb N1.out).keep t2.kp (fun e=>by have:=NR.out _ e;omega))
 have X3:=Lib.hid (X1.out.keep t2.kp (fun e=>by have:=NR.out _ e;have:=S1.out;omega))
 clear t2
 obtain⟨b0,b1,b2,b3,b4,b5,b6,b7,b8,b9,b10,b11,b12⟩:w2.cell? ⟨w1.heap.size,0,none⟩=some (.int .u64 ((xk:Nat):Int))/\w2.cell? ⟨w1.heap.size,1,none⟩=some (.int .i64 ((xn:Nat):Int))/\w2.cell? ⟨w1.heap.size,2,none⟩=some (.int .i64 xK)/\w2.cell? ⟨w1.heap.size,3,none⟩=some (.int .u32 xI)/\w2.cell? ⟨w1.heap.size,4,none⟩=some (.bool xX)/\w2.cell? ⟨w1.heap.size,5,none⟩=some (.bool xR)/\w2.cell? ⟨w1.heap.size,6,none⟩=some (.bool xB)/\w2.cell? ⟨w1.heap.size,7,none⟩=some (.bool xE)/\w2.cell? ⟨w1.heap.size,8,none⟩=some (.bool xS)/\w2.cell? ⟨w1.heap.size,9,none⟩=some (.int .u8 xD)/\w2.cell? ⟨w1.heap.size,10,none⟩=some (.int .u8 xV)/\w2.cell? ⟨w1.heap.size,11,none⟩=some (.int .u32 xA)/\w2.cell? ⟨w1.heap.size,12,none⟩=some (.slice xa xm xc):=⟨X3.out.cell 0,X3.out.cell 1,X3.out.cell 2,X3.out.cell 3,X3.out.cell 4,X3.out.cell 5,X3.out.cell 6,X3.out.cell 7,X3.out.cell 8,X3.out.cell 9,X3.out.cell 10,X3.out.cell 11,X3.out.cell 12⟩
 go_wp2_with (refine wpList_store_row (by rfl) _ _ _ (by rfl) _ _ (by rfl) (by rfl) _ _ X2.out (by kernel_rfl) (by rfl) (by simp[Value.oneCell']) ?_)
 clear b0 b1 b2 b3 b4 b5 b6 b7 b8 b9 b10 b11 b12
 have hb:=Blk.rowH X2.out #[(.int .u64 ((xk:Nat):Int)),(.int .i64 ((xn:Nat):Int)),(.int .i64 xK),(.int .u32 xI),(.bool xX),(.bool xR),(.bool xB),(.bool xE),(.bool xS),(.int .u8 xD),(.int .u8 xV),(.int .u32 xA),(.slice xa xm xc)]
 have kq:=Kp.rowH w2 w.heap.size #[(.int .u64 ((xk:Nat):Int)),(.int .i64 ((xn:Nat):Int)),(.int .i64 xK),(.int .u32 xI),(.bool xX),(.bool xR),(.bool xB),(.bool xE),(.bool xS),(.int .u8 xD),(.int .u8 xV),(.int .u32 xA),(.slice xa xm xc)]
 change bodyPost _ _ _ _ _ (World.setRow w2 w.heap.size #[(.int .u64 ((xk:Nat):Int)),(.int .i64 ((xn:Nat):Int)),(.int .i64 xK),(.int .u32 xI),(.bool xX),(.bool xR),(.bool xB),(.bool xE),(.bool xS),(.int .u8 xD),(.int .u8 xV),(.int .u32 xA),(.slice xa xm xc)])
 generalize World.setRow w2 w.heap.size #[(.int .u64 ((xk:Nat):Int)),(.int .i64 ((xn:Nat):Int)),(.int .i64 xK),(.int .u32 xI),(.bool xX),(.bool xR),(.bool xB),(.bool xE),(.bool xS),(.int .u8 xD),(.int .u8 xV),(.int .u32 xA),(.slice xa xm xc)]=WW at hb kq ⊢
 obtain⟨e0,e1,e2,e3,e4,e5,e6,e7,e8,e9,e10,e11,e12⟩:WW.cell? ⟨w.heap.size,0,none⟩=some (.int .u64 ((xk:Nat):Int))/\WW.cell? ⟨w.heap.size,1,none⟩=some (.int .i64 ((xn:Nat):Int))/\WW.cell? ⟨w.heap.size,2,none⟩=some (.int .i64 xK)/\WW.cell? ⟨w.heap.size,3,none⟩=some (.int .u32 xI)/\WW.cell? ⟨w.heap.size,4,none⟩=some (.bool xX)/\WW.cell? ⟨w.heap.size,5,none⟩=some (.bool xR)/\WW.cell? ⟨w.heap.size,6,none⟩=some (.bool xB)/\WW.cell? ⟨w.heap.size,7,none⟩=some (.bool xE)/\WW.cell? ⟨w.heap.size,8,none⟩=some (.bool xS)/\WW.cell? ⟨w.heap.size,9,none⟩=some (.int .u8 xD)/\WW.cell? ⟨w.heap.size,10,none⟩=some (.int .u8 xV)/\WW.cell? ⟨w.heap.size,11,none⟩=some (.int .u32 xA)/\WW.cell? ⟨w.heap.size,12,none⟩=some (.slice xa xm xc):=⟨hb.cell 0,hb.cell 1,hb.cell 2,hb.cell 3,hb.cell 4,hb.cell 5,hb.cell 6,hb.cell 7,hb.cell 8,hb.cell 9,hb.cell 10,hb.cell 11,hb.cell 12⟩
 exact bodyPost_ret (v := .tuple #[.agg #[(.int .u64 ((xk:Nat):Int)),(.int .i64 ((xn:Nat):Int)),(.int .i64 xK),(.int .u32 xI),(.bool xX),(.bool xR),(.bool xB),(.bool xE),(.bool xS),(.int .u8 xD),(.int .u8 xV),(.int .u32 xA),(.slice xa xm xc)],.bool true]) (by simp[results,Tryd.results34,go_sem,e0,e1,e2,e3,e4,e5,e6,e7,e8,e9,e10,e11,e12]) rfl ⟨rfl,v2,l2,TK.out _ _ _ _ (NY.out.tr N1.out) T2.out _ kq⟩
end Go.Proofs.YtdedoeeekcfkpaaDoor
namespace Go.Proofs.YtdedoeeekcfkpaaDoor
set_option linter.unusedVariables false
set_option linter.unusedSimpArgs false
open Go.RowKit Go.Sort
theorem cfC1:∀ args w,(callFunc 37 args).run Tryd.prog w = .ok (.enter 37 args) w:=hcf _ _ Tryd.func37 (by kernel_rfl) (by kernel_rfl)
theorem named_any (p:It × Value) (B:Nat) (m:Int) (w:World) (hc:w.cell? ⟨B,0,none⟩=some (.int .i64 m)) :
    Calls Tryd.prog 37 #[.agg (enC p).toArray,.pointer (some ⟨B,0,none⟩)] w fun e w'=>e = .returned (.bool (((p.1.no:Nat):Int)==m))/\Nb w w':=by
 obtain⟨⟨xn,⟨xK,xI,xX,xR,xB,xE,xS,xD,xV,xA⟩,xl⟩,xv⟩:=p
 simp only[enC,itC]
 generalize keyF ⟨xK,xI,xX,xR,xB,xE,xS,xD,xV,xA⟩=xk
 have hB:=World.block_lt_of_cell? _ _ hc
 go_enter Tryd.func37,Tryd.ntmps37
 go_wp2
 go_ret
 exact⟨rfl,Nb.rfl.al _⟩
def IdxE (l:List (It × Value)) (m:Int) (r:Int):Prop:=(r = -1/\∀ j,j < l.length->(((l.getD j dR).1.no:Nat):Int)≠m)\/∃ k:Nat,r=k/\k < l.length/\(((l.getD k dR).1.no:Nat):Int)=m
theorem index_any (v:Value) (l:List (It × Value)) (B:Nat) (m:Int) (w:World) (h:OwnE w v l) (hc:w.cell? ⟨B,0,none⟩=some (.int .i64 m)) (hl:l.length<=1000) :
    Calls Tryd.prog 56 #[v,(.func (.func 37) #[] #[.pointer (some ⟨B,0,none⟩)])] w fun e w'=>∃ r,e = .returned (.int .i64 r)/\IdxE l m r/\Nb w w':=by
 obtain⟨a,cap,rfl,ha,_,_⟩:=h.shape
 have hB:=World.block_lt_of_cell? _ _ hc
 have H:=Lib.hid h
 have HA:=Lib.hid ha
 have HC:=Lib.hid (fun w' (n:Nb w w')=>(show w'.cell? ⟨B,0,none⟩=some (.int .i64 m) by rw[n.cell (p:=⟨B,0,none⟩) hB];exact hc))
 have cf:=cfC1
 clear h hc ha hB
 go_enter Tryd.func56,Tryd.ntmps56
 go_wp2
 go_loopw [8] (fun ix wr=>∃ k:Nat,k<=l.length/\ix = .int .i64 k/\(∀ j,j < k->(((l.getD j dR).1.no:Nat):Int)≠m)/\Nb w wr) (fun ix _=>l.length - (intOf ix).toNat)
 case atStart=>exact⟨0,Nat.zero_le _,rfl,fun j hj=>by omega,Nb.rfl⟩
 case round =>
  obtain⟨k,hk,rfl,hall,hnb⟩:=hrel
  have HL:=Lib.hid hall
  have HN:=Lib.hid hnb
  clear hall hnb
  by_cases hlt:k < l.length
  ·obtain⟨g,rfl⟩:=HA.out (by omega)
   have hr:=(H.out.nb HN.out).rw.2
   obtain⟨p,hp⟩:∃ q,l.getD k dR=q:=⟨_,rfl⟩
   have HM:=Lib.hid (fun w' (n:Nb w w')=>named_any p B m w' (HC.out w' n))
   have HP:=Lib.hid hp
   obtain⟨⟨ma0,ma1,ma2,ma3,ma4,ma5,ma6,ma7,ma8,ma9,ma10,ma11,ma12⟩,-⟩:=hr.at hlt (show l.getD k dR=⟨⟨p.1.no,⟨p.1.f.K,p.1.f.I,p.1.f.X,p.1.f.R,p.1.f.B,p.1.f.E,p.1.f.S,p.1.f.D,p.1.f.V,p.1.f.A⟩,p.1.l⟩,p.2⟩ from hp)
   obtain⟨⟨xn,⟨xK,xI,xX,xR,xB,xE,xS,xD,xV,xA⟩,xl⟩,xv⟩:=p
   simp only[enC,itC] at HM
   generalize keyF ⟨xK,xI,xX,xR,xB,xE,xS,xD,xV,xA⟩=xk at *
   clear hp hr
   have hi:(k:Int) < (l.length:Int):=by omega
   cases hb:(((xn:Nat):Int)==m) with
   | true =>
     rw[hb] at HM
     have HB:=Lib.hid hb
     clear hb
     go_wp2_with fail
     refine (HM.out _ HN.out).mono ?_
     rintro e w1 ⟨rfl,n1⟩
     have N1:=Lib.hid (HN.out.tr n1)
     clear n1
     go_wp2
     go_ret
     exact⟨_,rfl,.inr ⟨k,rfl,hlt,by rw[HP.out];exact eq_of_beq HB.out⟩,N1.out⟩
   | false =>
     rw[hb] at HM
     have HB:=Lib.hid hb
     clear hb
     go_wp2_with fail
     refine (HM.out _ HN.out).mono ?_
     rintro e w1 ⟨rfl,n1⟩
     have N1:=Lib.hid (HN.out.tr n1)
     clear n1
     go_wp2
     go_roundw
     case rel =>
      refine⟨k+1,by omega,by go_num,fun j hj => ?_,N1.out⟩
      by_cases e:j=k
      ·subst e
       rw[HP.out]
       intro q
       have:=HB.out
       simp only at q
       rw[q] at this
       simp at this
      ·exact HL.out j (by omega)
     case measure=>simp[intOf];omega
  ·obtain rfl:k=l.length:=by omega
   go_wp2
   go_ret
   exact⟨_,rfl,.inl ⟨rfl,HL.out⟩,HN.out⟩
theorem wdrop_any (R:Nat) (r s:Value) (v:Value) (l:List (It × Value)) (B:Nat) (m:Int) (w:World) (h:HeE w R r s v l) (hS:SlE l) (hc:w.cell? ⟨B,0,none⟩=some (.int .i64 m)) (hl:l.length<=1000) (hh:HeQ dR kpE allQ l l.length) :
    Calls Tryd.prog 36 #[.pointer (some ⟨R,2,none⟩),(.func (.func 37) #[] #[.pointer (some ⟨B,0,none⟩)])] w fun e w'=>(e = .returned (.bool false)/\(∀ j,j < l.length->(((l.getD j dR).1.no:Nat):Int)≠m)/\Nb w w')\/(e = .returned (.bool true)/\∃ k,k < l.length/\(((l.getD k dR).1.no:Nat):Int)=m/\∃ v' l',TookE w w' R r s v l (l.getD k dR) (l.length - 1) v' l'):=by
 have HI:=Lib.hid (index_any v l B m w h.own hc hl)
 have HR:=Lib.hid (fun w' (n:Nb w w') k (hk:k < l.length)=>hhremE_any R r s v l (l.length - 1) k w' (h.nb n) hS (by omega) (by omega) hl hh)
 have TK:=Lib.hid (show ∀ w1 w2 v' l' x,Nb w w1->TookE w1 w2 R r s v l x (l.length - 1) v' l'->TookE w w2 R r s v l x (l.length - 1) v' l' from fun w1 w2 v' l' x m t=>⟨t.at',t.len,t.perm,t.heap,t.own,(Kp.ofNb m).tr t.kp (fun k e => .inl e)⟩)
 obtain⟨a,cap,rfl,_⟩:=h.own.shape
 have mc:=h.blk.cell 2
 simp only[List.getElem?_toArray,List.getElem?_cons_zero,List.getElem?_cons_succ] at mc
 clear h hS hc hh
 go_enter Tryd.func36,Tryd.ntmps36
 go_wp2_with fail
 refine HI.out.mono ?_
 rintro e w1 ⟨q,rfl,hq,n1⟩
 have N1:=Lib.hid n1
 clear n1
 rcases hq with ⟨rfl,hall⟩ | ⟨k,rfl,hk,hkm⟩
 ·have HA:=Lib.hid hall
  clear hall
  go_wp2
  go_ret
  exact .inl ⟨rfl,HA.out,N1.out⟩
 ·have HK:=Lib.hid hkm
  have k1:k<=1000:=by omega
  clear hkm
  go_wp2_with fail
  refine (HR.out _ N1.out k hk).mono ?_
  rintro e w2 ⟨⟨u,rfl⟩,v2,l2,t2⟩
  have T2:=Lib.hid t2
  clear t2
  go_wp2
  go_ret
  exact .inr ⟨rfl,k,hk,HK.out,v2,l2,TK.out _ _ _ _ _ N1.out T2.out⟩
end Go.Proofs.YtdedoeeekcfkpaaDoor
