/- The landed package node: what a bit does at the phases that have no row. Condition: the tables hold what the program's text lays there. The landed package node: what a bit does at Send. Condition: the tables hold what the program's text lays there. The landed package node: what a bit does at Pause, Recover, Idle; what is driven at each phase. Condition: the tables hold what the program's text lays there. The landed package node: Sample and Out, by the arrays of what is done at each phase. Condition: the tables hold what the program's text lays there. -/
import Derived.Test.YtipefblpppmabaaGreatDoorGn
import Derived.Deep.QuietTactic
import Derived.BigQuiet
import Derived.Deep.RegionWith
import Derived.Deep.CutRange
import Derived.Test.YtipefblpppmabaaGreatDoorGz
import Derived.Laws.EntriesVeiled
set_option maxHeartbeats 6400000
set_option maxRecDepth 100000
namespace Go.Proofs.YtipefblpppmabaaGreatDoor
set_option linter.unusedVariables false
set_option linter.unusedSimpArgs false
open Go.RowKit
theorem step0 {n:Nd} (h:n.ph=0) (b:Nat):n.step b=(n.cnt b 11 1,noEv):=by unfold Nd.step;rw[if_pos h]
theorem step4 {n:Nd} (h:n.ph=4) (b:Nat):n.step b=(n.to (if b=0 then 6 else 8),noEv):=by
 unfold Nd.step;rw[if_neg (by omega),if_neg (by omega),if_neg (by omega),if_neg (by omega),if_pos h]
theorem step5 {n:Nd} (h:n.ph=5\/n.ph=6) (b:Nat):n.step b=(if n.c+1=6 then n.to 7 else { n with c:=n.c+1 },noEv):=by
 unfold Nd.step;rw[if_neg (by omega),if_neg (by omega),if_neg (by omega),if_neg (by omega),if_neg (by omega),if_pos h]
theorem step7 {n:Nd} (h:n.ph=7) (b:Nat):n.step b=(n.cnt b 8 8,noEv):=by
 unfold Nd.step;rw[if_neg (by omega),if_neg (by omega),if_neg (by omega),if_neg (by omega),if_neg (by omega),if_neg (by omega),if_pos h]
theorem step8 {n:Nd} (h:n.ph=8) (b:Nat):n.step b=(n.pause b,noEv):=by
 unfold Nd.step;rw[if_neg (by omega),if_neg (by omega),if_neg (by omega),if_neg (by omega),if_neg (by omega),if_neg (by omega),if_neg (by omega),if_pos h]
theorem step9 {n:Nd} (h:n.ph=9) (b:Nat):n.step b=(if b=0 then n.begin else n.cnt b 8 1,noEv):=by
 unfold Nd.step;rw[if_neg (by omega),if_neg (by omega),if_neg (by omega),if_neg (by omega),if_neg (by omega),if_neg (by omega),if_neg (by omega),if_neg (by omega),if_pos h]
theorem step10 {n:Nd} (h:n.ph=10) (b:Nat):n.step b=(n,noEv):=by
 unfold Nd.step;rw[if_neg (by omega),if_neg (by omega),if_neg (by omega),if_neg (by omega),if_neg (by omega),if_neg (by omega),if_neg (by omega),if_neg (by omega),if_neg (by omega),if_neg (by omega)]
theorem step11 {n:Nd} (h:n.ph=11) (b:Nat):n.step b=(n.back b,noEv):=by
 unfold Nd.step;rw[if_neg (by omega),if_neg (by omega),if_neg (by omega),if_neg (by omega),if_neg (by omega),if_neg (by omega),if_neg (by omega),if_neg (by omega),if_neg (by omega),if_pos h]
theorem cnt_parts (n:Nd) (b k p:Nat) (h:n.ph≠2/\n.ph≠3) (hp:p≠2/\p≠3):(n.cnt b k p).has=n.has/\((n.cnt b k p).ph≠2/\(n.cnt b k p).ph≠3)/\(n.cnt b k p).c=(n.cnt b k p).count:=by
 have hc:∀ m:Nd,m.ph≠3->m.c=m.count:=fun m hm=>by unfold Nd.count;rw[if_neg hm]
 unfold Nd.cnt
 split
 ·exact⟨rfl,h,hc _ h.2⟩
 ·split
  ·exact⟨rfl,hp,hc _ hp.2⟩
  ·exact⟨rfl,h,hc _ h.2⟩
theorem st_parts (n:Nd) (k p:Nat) (h:n.ph≠2/\n.ph≠3) (hp:p≠2/\p≠3):(if n.c+1=k then n.to p else { n with c:=n.c+1 }).has=n.has/\((if n.c+1=k then n.to p else { n with c:=n.c+1 }).ph≠2/\(if n.c+1=k then n.to p else { n with c:=n.c+1 }).ph≠3)/\(if n.c+1=k then n.to p else { n with c:=n.c+1 }).c=(if n.c+1=k then n.to p else { n with c:=n.c+1 }).count:=by
 have hc:∀ m:Nd,m.ph≠3->m.c=m.count:=fun m hm=>by unfold Nd.count;rw[if_neg hm]
 split
 ·exact⟨rfl,hp,hc _ hp.2⟩
 ·exact⟨rfl,h,hc _ h.2⟩
theorem ntakeJoin_rt (R:Nat) (n:Nd) (ld:Value) (GL GM:Nat->Prop) (b:Nat) (w:World) (h:NB w R n n.c ld (.pointer none)) (hl:ld=if n.has then ld else .pointer none) (hcx:CxN w R GL GM) (hp:n.ph=0) (hc:n.c < 200):Calls Tryz.prog 64 #[.pointer (some ⟨R,0,none⟩),.int .u8 (b:Nat)] w (RT w R (n.step b).1 (n.step b).2 ld GL GM):=by
 have CX:=Lib.hid hcx
 have hRw:=hcx.lt
 obtain⟨w0,hw0⟩:∃ w0,w0=w.alloc (.cells #[.int .i64 0,.int .i64 0,.int .i64 0,.int .u32 0,.bool false,.bool false,.bool false,.bool false,.bool false,.int .u8 0,.int .u8 0,.int .u32 0,.slice none 0 0] 36):=⟨_,rfl⟩
 have n0:Nb w w0:=by rw[hw0];exact Nb.rfl.al _
 have s0:w0.heap.size=w.heap.size+1:=by rw[hw0,World.size_alloc]
 have X0:=Lib.hid (show Blk w0 w.heap.size #[.int .i64 0,.int .i64 0,.int .i64 0,.int .u32 0,.bool false,.bool false,.bool false,.bool false,.bool false,.int .u8 0,.int .u8 0,.int .u32 0,.slice none 0 0] 36 by rw[hw0];exact Blk.new _ _ _)
 have N0:=Lib.hid n0
 have HW0:=Lib.hid hw0
 have S0:=Lib.hid s0
 clear n0 hw0 s0
 have HO:=Lib.hid (nones_any R n n.c ld b 11 1 w0 (h.nb N0.out) rfl hc)
 obtain⟨g1,g2,g3⟩:=cnt_parts n b 11 1 ⟨by omega,by omega⟩ ⟨by omega,by omega⟩
 rw[step0 hp]
 obtain⟨m,hm⟩:∃ m,n.cnt b 11 1=m:=⟨_,rfl⟩
 simp only[hm] at HO g1 g2 g3 ⊢
 have HF:=Lib.hid (fun w' q k=>NT.rt (GL:=GL) (GM:=GM) (ev:=noEv) (ld0:=ld) (e := .returned noEvV) (w':=w') Kp.rfl (⟨rfl,q,k⟩:NT w0 R m m.c ld (.pointer none) noEvV _ w') rfl g3 (by rw[g1];exact hl) g2)
 clear h hl hp hc g1 g2 g3 hm hcx
 go_enter Tryz.func64,Tryz.ntmps64
 go_wp2_with fail
 rw[<- HW0.out]
 refine (HO.out).mono ?_
 rintro e w1 ⟨rfl,q1,k1⟩
 have Z:=Lib.hid (HF.out _ q1 k1)
 have X1:=Lib.hid (X0.out.keep k1 (by have:=CX.out.lt;omega))
 clear q1 k1
 have hb:=Blk.row (X1.out) (staC moreS (.slice none 0 0))
 have kq:=Kp.row w1 (w.heap.size) (staC moreS (.slice none 0 0))
 have HXX:=Lib.hid (X1.out)
 have HBQ:=Lib.hid hb
 have KQ:=Lib.hid kq
 clear hb kq
 go_wp2_with (refine wpList_store_row (by rfl) _ _ _ (by rfl) _ _ (by rfl) (by rfl) _ _ HXX.out (by kernel_rfl) (by rfl) (by simp[Value.oneCell']) ?_)
 change bodyPost _ _ _ _ _ (World.setRow w1 (w.heap.size) (staC moreS (.slice none 0 0)))
 have hb:=HBQ.out
 have kq:=KQ.out
 generalize World.setRow w1 (w.heap.size) (staC moreS (.slice none 0 0))=WW at hb kq HBQ KQ ⊢
 obtain⟨_,⟨e0,e1,e2,e3,e4,e5,e6,e7,e8,e9,e10,e11,e12⟩,_⟩:=Blk.h13 hb
 exact bodyPost_ret (v:=staV moreS (.slice none 0 0)) (by simp[results,Tryz.results64,go_sem,staV,moreS,noF,e0,e1,e2,e3,e4,e5,e6,e7,e8,e9,e10,e11,e12]) rfl (RT.mk N0.out Z.out kq CX.out (Nat.le_refl _) (by have:=S0.out;omega))
theorem ntakeDelim_rt (R:Nat) (n:Nd) (ld:Value) (GL GM:Nat->Prop) (b:Nat) (w:World) (h:NB w R n n.c ld (.pointer none)) (hl:ld=if n.has then ld else .pointer none) (hcx:CxN w R GL GM) (hp:n.ph=7) (hc:n.c < 200):Calls Tryz.prog 70 #[.pointer (some ⟨R,0,none⟩),.int .u8 (b:Nat)] w (RT w R (n.step b).1 (n.step b).2 ld GL GM):=by
 have CX:=Lib.hid hcx
 have hRw:=hcx.lt
 obtain⟨w0,hw0⟩:∃ w0,w0=w.alloc (.cells #[.int .i64 0,.int .i64 0,.int .i64 0,.int .u32 0,.bool false,.bool false,.bool false,.bool false,.bool false,.int .u8 0,.int .u8 0,.int .u32 0,.slice none 0 0] 36):=⟨_,rfl⟩
 have n0:Nb w w0:=by rw[hw0];exact Nb.rfl.al _
 have s0:w0.heap.size=w.heap.size+1:=by rw[hw0,World.size_alloc]
 have X0:=Lib.hid (show Blk w0 w.heap.size #[.int .i64 0,.int .i64 0,.int .i64 0,.int .u32 0,.bool false,.bool false,.bool false,.bool false,.bool false,.int .u8 0,.int .u8 0,.int .u32 0,.slice none 0 0] 36 by rw[hw0];exact Blk.new _ _ _)
 have N0:=Lib.hid n0
 have HW0:=Lib.hid hw0
 have S0:=Lib.hid s0
 clear n0 hw0 s0
 have HO:=Lib.hid (nones_any R n n.c ld b 8 8 w0 (h.nb N0.out) rfl hc)
 obtain⟨g1,g2,g3⟩:=cnt_parts n b 8 8 ⟨by omega,by omega⟩ ⟨by omega,by omega⟩
 rw[step7 hp]
 obtain⟨m,hm⟩:∃ m,n.cnt b 8 8=m:=⟨_,rfl⟩
 simp only[hm] at HO g1 g2 g3 ⊢
 have HF:=Lib.hid (fun w' q k=>NT.rt (GL:=GL) (GM:=GM) (ev:=noEv) (ld0:=ld) (e := .returned noEvV) (w':=w') Kp.rfl (⟨rfl,q,k⟩:NT w0 R m m.c ld (.pointer none) noEvV _ w') rfl g3 (by rw[g1];exact hl) g2)
 clear h hl hp hc g1 g2 g3 hm hcx
 go_enter Tryz.func70,Tryz.ntmps70
 go_wp2_with fail
 rw[<- HW0.out]
 refine (HO.out).mono ?_
 rintro e w1 ⟨rfl,q1,k1⟩
 have Z:=Lib.hid (HF.out _ q1 k1)
 have X1:=Lib.hid (X0.out.keep k1 (by have:=CX.out.lt;omega))
 clear q1 k1
 have hb:=Blk.row (X1.out) (staC moreS (.slice none 0 0))
 have kq:=Kp.row w1 (w.heap.size) (staC moreS (.slice none 0 0))
 have HXX:=Lib.hid (X1.out)
 have HBQ:=Lib.hid hb
 have KQ:=Lib.hid kq
 clear hb kq
 go_wp2_with (refine wpList_store_row (by rfl) _ _ _ (by rfl) _ _ (by rfl) (by rfl) _ _ HXX.out (by kernel_rfl) (by rfl) (by simp[Value.oneCell']) ?_)
 change bodyPost _ _ _ _ _ (World.setRow w1 (w.heap.size) (staC moreS (.slice none 0 0)))
 have hb:=HBQ.out
 have kq:=KQ.out
 generalize World.setRow w1 (w.heap.size) (staC moreS (.slice none 0 0))=WW at hb kq HBQ KQ ⊢
 obtain⟨_,⟨e0,e1,e2,e3,e4,e5,e6,e7,e8,e9,e10,e11,e12⟩,_⟩:=Blk.h13 hb
 exact bodyPost_ret (v:=staV moreS (.slice none 0 0)) (by simp[results,Tryz.results70,go_sem,staV,moreS,noF,e0,e1,e2,e3,e4,e5,e6,e7,e8,e9,e10,e11,e12]) rfl (RT.mk N0.out Z.out kq CX.out (Nat.le_refl _) (by have:=S0.out;omega))
theorem ntakeFlag_rt (R:Nat) (n:Nd) (ld:Value) (GL GM:Nat->Prop) (b:Nat) (w:World) (h:NB w R n n.c ld (.pointer none)) (hl:ld=if n.has then ld else .pointer none) (hcx:CxN w R GL GM) (hp:n.ph=5\/n.ph=6) (hc:n.c < 200):Calls Tryz.prog 69 #[.pointer (some ⟨R,0,none⟩),.int .u8 (b:Nat)] w (RT w R (n.step b).1 (n.step b).2 ld GL GM):=by
 have CX:=Lib.hid hcx
 have hRw:=hcx.lt
 obtain⟨w0,hw0⟩:∃ w0,w0=w.alloc (.cells #[.int .i64 0,.int .i64 0,.int .i64 0,.int .u32 0,.bool false,.bool false,.bool false,.bool false,.bool false,.int .u8 0,.int .u8 0,.int .u32 0,.slice none 0 0] 36):=⟨_,rfl⟩
 have n0:Nb w w0:=by rw[hw0];exact Nb.rfl.al _
 have s0:w0.heap.size=w.heap.size+1:=by rw[hw0,World.size_alloc]
 have X0:=Lib.hid (show Blk w0 w.heap.size #[.int .i64 0,.int .i64 0,.int .i64 0,.int .u32 0,.bool false,.bool false,.bool false,.bool false,.bool false,.int .u8 0,.int .u8 0,.int .u32 0,.slice none 0 0] 36 by rw[hw0];exact Blk.new _ _ _)
 have N0:=Lib.hid n0
 have HW0:=Lib.hid hw0
 have S0:=Lib.hid s0
 clear n0 hw0 s0
 have HO:=Lib.hid (nstep_any R n n.c ld 6 7 w0 (h.nb N0.out) rfl hc)
 obtain⟨g1,g2,g3⟩:=st_parts n 6 7 ⟨by omega,by omega⟩ ⟨by omega,by omega⟩
 rw[step5 hp]
 obtain⟨m,hm⟩:∃ m,(if n.c+1=6 then n.to 7 else { n with c:=n.c+1 })=m:=⟨_,rfl⟩
 simp only[hm] at HO g1 g2 g3 ⊢
 have HF:=Lib.hid (fun w' q k=>NT.rt (GL:=GL) (GM:=GM) (ev:=noEv) (ld0:=ld) (e := .returned noEvV) (w':=w') Kp.rfl (⟨rfl,q,k⟩:NT w0 R m m.c ld (.pointer none) noEvV _ w') rfl g3 (by rw[g1];exact hl) g2)
 clear h hl hp hc g1 g2 g3 hm hcx
 go_enter Tryz.func69,Tryz.ntmps69
 go_wp2_with fail
 rw[<- HW0.out]
 refine (HO.out).mono ?_
 rintro e w1 ⟨rfl,q1,k1⟩
 have Z:=Lib.hid (HF.out _ q1 k1)
 have X1:=Lib.hid (X0.out.keep k1 (by have:=CX.out.lt;omega))
 clear q1 k1
 have hb:=Blk.row (X1.out) (staC moreS (.slice none 0 0))
 have kq:=Kp.row w1 (w.heap.size) (staC moreS (.slice none 0 0))
 have HXX:=Lib.hid (X1.out)
 have HBQ:=Lib.hid hb
 have KQ:=Lib.hid kq
 clear hb kq
 go_wp2_with (refine wpList_store_row (by rfl) _ _ _ (by rfl) _ _ (by rfl) (by rfl) _ _ HXX.out (by kernel_rfl) (by rfl) (by simp[Value.oneCell']) ?_)
 change bodyPost _ _ _ _ _ (World.setRow w1 (w.heap.size) (staC moreS (.slice none 0 0)))
 have hb:=HBQ.out
 have kq:=KQ.out
 generalize World.setRow w1 (w.heap.size) (staC moreS (.slice none 0 0))=WW at hb kq HBQ KQ ⊢
 obtain⟨_,⟨e0,e1,e2,e3,e4,e5,e6,e7,e8,e9,e10,e11,e12⟩,_⟩:=Blk.h13 hb
 exact bodyPost_ret (v:=staV moreS (.slice none 0 0)) (by simp[results,Tryz.results69,go_sem,staV,moreS,noF,e0,e1,e2,e3,e4,e5,e6,e7,e8,e9,e10,e11,e12]) rfl (RT.mk N0.out Z.out kq CX.out (Nat.le_refl _) (by have:=S0.out;omega))
theorem ntakeLast_rt (R:Nat) (n:Nd) (ld:Value) (GL GM:Nat->Prop) (b:Nat) (w:World) (h:NB w R n n.c ld (.pointer none)) (hl:ld=if n.has then ld else .pointer none) (hcx:CxN w R GL GM) (hp:n.ph=4):Calls Tryz.prog 68 #[.pointer (some ⟨R,0,none⟩),.int .u8 (b:Nat)] w (RT w R (n.step b).1 (n.step b).2 ld GL GM):=by
 have CX:=Lib.hid hcx
 have hRw:=hcx.lt
 obtain⟨w0,hw0⟩:∃ w0,w0=w.alloc (.cells #[.int .i64 0,.int .i64 0,.int .i64 0,.int .u32 0,.bool false,.bool false,.bool false,.bool false,.bool false,.int .u8 0,.int .u8 0,.int .u32 0,.slice none 0 0] 36):=⟨_,rfl⟩
 have n0:Nb w w0:=by rw[hw0];exact Nb.rfl.al _
 have s0:w0.heap.size=w.heap.size+1:=by rw[hw0,World.size_alloc]
 have X0:=Lib.hid (show Blk w0 w.heap.size #[.int .i64 0,.int .i64 0,.int .i64 0,.int .u32 0,.bool false,.bool false,.bool false,.bool false,.bool false,.int .u8 0,.int .u8 0,.int .u32 0,.slice none 0 0] 36 by rw[hw0];exact Blk.new _ _ _)
 have N0:=Lib.hid n0
 have HW0:=Lib.hid hw0
 have S0:=Lib.hid s0
 clear n0 hw0 s0
 have HO:=Lib.hid (fun p=>nbegin_any R n n.c ld (.pointer none) p w0 (h.nb N0.out))
 rw[step4 hp]
 have HF:=Lib.hid (fun p (hp:p=6\/p=8) w' q k=>NT.rt (GL:=GL) (GM:=GM) (ev:=noEv) (ld0:=ld) (e := .returned noEvV) (w':=w') Kp.rfl (⟨rfl,q,k⟩:NT w0 R (n.to p) 0 ld (.pointer none) noEvV _ w') rfl (by unfold Nd.count;rw[if_neg (by show ¬p=3;omega)];rfl) hl ⟨by show p≠2;omega,by show p≠3;omega⟩)
 clear h hl hp hcx
 by_cases hb:b=0
 ·subst hb
  rw[if_pos rfl]
  go_enter Tryz.func68,Tryz.ntmps68
  go_wp2_with fail
  rw[<- HW0.out]
  refine (HO.out _).mono ?_
  rintro e w1 ⟨rfl,q1,k1⟩
  have Z:=Lib.hid (HF.out 6 (.inl rfl) _ q1 k1)
  have X1:=Lib.hid (X0.out.keep k1 (by have:=CX.out.lt;omega))
  clear q1 k1
  have hb:=Blk.row (X1.out) (staC moreS (.slice none 0 0))
  have kq:=Kp.row w1 (w.heap.size) (staC moreS (.slice none 0 0))
  have HXX:=Lib.hid (X1.out)
  have HBQ:=Lib.hid hb
  have KQ:=Lib.hid kq
  clear hb kq
  go_wp2_with (refine wpList_store_row (by rfl) _ _ _ (by rfl) _ _ (by rfl) (by rfl) _ _ HXX.out (by kernel_rfl) (by rfl) (by simp[Value.oneCell']) ?_)
  change bodyPost _ _ _ _ _ (World.setRow w1 (w.heap.size) (staC moreS (.slice none 0 0)))
  have hb:=HBQ.out
  have kq:=KQ.out
  generalize World.setRow w1 (w.heap.size) (staC moreS (.slice none 0 0))=WW at hb kq HBQ KQ ⊢
  obtain⟨_,⟨e0,e1,e2,e3,e4,e5,e6,e7,e8,e9,e10,e11,e12⟩,_⟩:=Blk.h13 hb
  exact bodyPost_ret (v:=staV moreS (.slice none 0 0)) (by simp[results,Tryz.results68,go_sem,staV,moreS,noF,e0,e1,e2,e3,e4,e5,e6,e7,e8,e9,e10,e11,e12]) rfl (RT.mk N0.out Z.out kq CX.out (Nat.le_refl _) (by have:=S0.out;omega))
 ·have db:((b:Int)==0)=false:=by rw[beq_eq_false_iff_ne];omega
  rw[if_neg hb]
  clear hb
  go_enter Tryz.func68,Tryz.ntmps68
  go_wp2_with fail
  rw[<- HW0.out]
  refine (HO.out _).mono ?_
  rintro e w1 ⟨rfl,q1,k1⟩
  have Z:=Lib.hid (HF.out 8 (.inr rfl) _ q1 k1)
  have X1:=Lib.hid (X0.out.keep k1 (by have:=CX.out.lt;omega))
  clear q1 k1
  have hb:=Blk.row (X1.out) (staC moreS (.slice none 0 0))
  have kq:=Kp.row w1 (w.heap.size) (staC moreS (.slice none 0 0))
  have HXX:=Lib.hid (X1.out)
  have HBQ:=Lib.hid hb
  have KQ:=Lib.hid kq
  clear hb kq
  go_wp2_with (refine wpList_store_row (by rfl) _ _ _ (by rfl) _ _ (by rfl) (by rfl) _ _ HXX.out (by kernel_rfl) (by rfl) (by simp[Value.oneCell']) ?_)
  change bodyPost _ _ _ _ _ (World.setRow w1 (w.heap.size) (staC moreS (.slice none 0 0)))
  have hb:=HBQ.out
  have kq:=KQ.out
  generalize World.setRow w1 (w.heap.size) (staC moreS (.slice none 0 0))=WW at hb kq HBQ KQ ⊢
  obtain⟨_,⟨e0,e1,e2,e3,e4,e5,e6,e7,e8,e9,e10,e11,e12⟩,_⟩:=Blk.h13 hb
  exact bodyPost_ret (v:=staV moreS (.slice none 0 0)) (by simp[results,Tryz.results68,go_sem,staV,moreS,noF,e0,e1,e2,e3,e4,e5,e6,e7,e8,e9,e10,e11,e12]) rfl (RT.mk N0.out Z.out kq CX.out (Nat.le_refl _) (by have:=S0.out;omega))
theorem ntakeAway_rt (R:Nat) (n:Nd) (ld:Value) (GL GM:Nat->Prop) (b:Nat) (w:World) (h:NB w R n n.c ld (.pointer none)) (hl:ld=if n.has then ld else .pointer none) (hcx:CxN w R GL GM) (hp:n.ph=10):Calls Tryz.prog 73 #[.pointer (some ⟨R,0,none⟩),.int .u8 (b:Nat)] w (RT w R (n.step b).1 (n.step b).2 ld GL GM):=by
 rw[step10 hp]
 have HF:=Lib.hid (fun w' q k=>NT.rt (GL:=GL) (GM:=GM) (ev:=noEv) (ld0:=ld) (e := .returned noEvV) (w':=w') Kp.rfl (⟨rfl,q,k⟩:NT w R n n.c ld (.pointer none) noEvV _ w') rfl (by unfold Nd.count;rw[if_neg (by omega)]) hl ⟨by omega,by omega⟩)
 have H:=Lib.hid h
 clear h hl hp hcx
 go_enter Tryz.func73,Tryz.ntmps73
 go_wp2
 have hb:=Blk.new w (staC moreS (.slice none 0 0)) 36
 have hs:(w).heap.size=w.heap.size:=rfl
 rw[hs] at hb
 obtain⟨_,⟨e0,e1,e2,e3,e4,e5,e6,e7,e8,e9,e10,e11,e12⟩,_⟩:=Blk.h13 hb
 exact bodyPost_ret (v:=staV moreS (.slice none 0 0)) (by simp[results,Tryz.results73,go_sem,staV,moreS,noF]) rfl (HF.out _ (H.out.nb (Nb.rfl.al _)) (Kp.ofNb (Nb.rfl.al _)))
theorem ntakeSuspend_rt (R:Nat) (n:Nd) (ld:Value) (GL GM:Nat->Prop) (b:Nat) (w:World) (h:NB w R n n.c ld (.pointer none)) (hl:ld=if n.has then ld else .pointer none) (hcx:CxN w R GL GM) (hp:n.ph=9) (hc:n.c < 200) (ho:okFa n.fa=true) (hB:Both w):Calls Tryz.prog 72 #[.pointer (some ⟨R,0,none⟩),.int .u8 (b:Nat)] w (RT w R (n.step b).1 (n.step b).2 ld GL GM):=by
 have CX:=Lib.hid hcx
 have hRw:=hcx.lt
 obtain⟨w0,hw0⟩:∃ w0,w0=w.alloc (.cells #[.int .i64 0,.int .i64 0,.int .i64 0,.int .u32 0,.bool false,.bool false,.bool false,.bool false,.bool false,.int .u8 0,.int .u8 0,.int .u32 0,.slice none 0 0] 36):=⟨_,rfl⟩
 have n0:Nb w w0:=by rw[hw0];exact Nb.rfl.al _
 have s0:w0.heap.size=w.heap.size+1:=by rw[hw0,World.size_alloc]
 have X0:=Lib.hid (show Blk w0 w.heap.size #[.int .i64 0,.int .i64 0,.int .i64 0,.int .u32 0,.bool false,.bool false,.bool false,.bool false,.bool false,.int .u8 0,.int .u8 0,.int .u32 0,.slice none 0 0] 36 by rw[hw0];exact Blk.new _ _ _)
 have N0:=Lib.hid n0
 have HW0:=Lib.hid hw0
 have S0:=Lib.hid s0
 clear n0 hw0 s0
 have HO:=Lib.hid (nstep_any R n n.c ld 8 1 w0 (h.nb N0.out) rfl hc)
 have HH:=Lib.hid (nhear_any R n n.c ld (.pointer none) GL GM w0 (h.nb N0.out) ho (hB.below N0.out) hl (hcx.up N0.out.size))
 obtain⟨g1,g2,g3⟩:=st_parts n 8 1 ⟨by omega,by omega⟩ ⟨by omega,by omega⟩
 rw[step9 hp]
 unfold Nd.cnt
 by_cases hb:b=0
 ·subst hb
  rw[if_pos rfl]
  clear h hl hp hc g1 g2 g3 ho hB hcx HO
  go_enter Tryz.func72,Tryz.ntmps72
  go_wp2_with fail
  rw[<- HW0.out]
  refine (HH.out).mono ?_
  intro e w1 q
  have X1:=Lib.hid (X0.out.keep q.kp (fun hg=>by
   rcases hg with h | h
   ·omega
   ·have:=CX.out.gm _ h;omega))
  obtain⟨a1,cp1,rfl,q⟩:=q.is
  have Z:=Lib.hid q
  clear q
  have hb:=Blk.row (X1.out) (staC moreS (.slice a1 0 cp1))
  have kq:=Kp.row w1 (w.heap.size) (staC moreS (.slice a1 0 cp1))
  have HXX:=Lib.hid (X1.out)
  have HBQ:=Lib.hid hb
  have KQ:=Lib.hid kq
  clear hb kq
  go_wp2_with (refine wpList_store_row (by rfl) _ _ _ (by rfl) _ _ (by rfl) (by rfl) _ _ HXX.out (by kernel_rfl) (by rfl) (by simp[Value.oneCell']) ?_)
  change bodyPost _ _ _ _ _ (World.setRow w1 (w.heap.size) (staC moreS (.slice a1 0 cp1)))
  have hb:=HBQ.out
  have kq:=KQ.out
  generalize World.setRow w1 (w.heap.size) (staC moreS (.slice a1 0 cp1))=WW at hb kq HBQ KQ ⊢
  obtain⟨_,⟨e0,e1,e2,e3,e4,e5,e6,e7,e8,e9,e10,e11,e12⟩,_⟩:=Blk.h13 hb
  exact bodyPost_ret (v:=staV moreS (.slice a1 0 cp1)) (by simp[results,Tryz.results72,go_sem,staV,moreS,noF,e0,e1,e2,e3,e4,e5,e6,e7,e8,e9,e10,e11,e12]) rfl (RT.mk N0.out Z.out kq CX.out (Nat.le_refl _) (by have:=S0.out;omega))
 ·have db:((b:Int)==0)=false:=by rw[beq_eq_false_iff_ne];omega
  rw[if_neg hb,if_neg hb]
  obtain⟨m,hm⟩:∃ m,(if n.c+1=8 then n.to 1 else { n with c:=n.c+1 })=m:=⟨_,rfl⟩
  simp only[hm] at HO g1 g2 g3 ⊢
  have HF:=Lib.hid (fun w' q k=>NT.rt (GL:=GL) (GM:=GM) (ev:=noEv) (ld0:=ld) (e := .returned noEvV) (w':=w') Kp.rfl (⟨rfl,q,k⟩:NT w0 R m m.c ld (.pointer none) noEvV _ w') rfl g3 (by rw[g1];exact hl) g2)
  clear h hl hp hc g1 g2 g3 ho hB hcx hm hb HH
  go_enter Tryz.func72,Tryz.ntmps72
  go_wp2_with fail
  rw[<- HW0.out]
  refine (HO.out).mono ?_
  rintro e w1 ⟨rfl,q1,k1⟩
  have Z:=Lib.hid (HF.out _ q1 k1)
  have X1:=Lib.hid (X0.out.keep k1 (by have:=CX.out.lt;omega))
  clear q1 k1
  have hb:=Blk.row (X1.out) (staC moreS (.slice none 0 0))
  have kq:=Kp.row w1 (w.heap.size) (staC moreS (.slice none 0 0))
  have HXX:=Lib.hid (X1.out)
  have HBQ:=Lib.hid hb
  have KQ:=Lib.hid kq
  clear hb kq
  go_wp2_with (refine wpList_store_row (by rfl) _ _ _ (by rfl) _ _ (by rfl) (by rfl) _ _ HXX.out (by kernel_rfl) (by rfl) (by simp[Value.oneCell']) ?_)
  change bodyPost _ _ _ _ _ (World.setRow w1 (w.heap.size) (staC moreS (.slice none 0 0)))
  have hb:=HBQ.out
  have kq:=KQ.out
  generalize World.setRow w1 (w.heap.size) (staC moreS (.slice none 0 0))=WW at hb kq HBQ KQ ⊢
  obtain⟨_,⟨e0,e1,e2,e3,e4,e5,e6,e7,e8,e9,e10,e11,e12⟩,_⟩:=Blk.h13 hb
  exact bodyPost_ret (v:=staV moreS (.slice none 0 0)) (by simp[results,Tryz.results72,go_sem,staV,moreS,noF,e0,e1,e2,e3,e4,e5,e6,e7,e8,e9,e10,e11,e12]) rfl (RT.mk N0.out Z.out kq CX.out (Nat.le_refl _) (by have:=S0.out;omega))
end Go.Proofs.YtipefblpppmabaaGreatDoor
namespace Go.Proofs.YtipefblpppmabaaGreatDoor
set_option linter.unusedVariables false
set_option linter.unusedSimpArgs false
open Go.RowKit
structure SendAt (w0 w1:World) (R:Nat) (m:Nd) (ld rw:Value) (GL G1 GM:Nat->Prop):Prop where
 nb:NB w1 R m m.c ld rw
 ld:LoadAt w1 ld m.f m.l GL
 rl:¬GL R
 ma:MachAt w1 rw m.kn m.x G1
 nr:¬G1 R
 ph:m.ph=2
 has:m.has=true
 len:(wF m.f m.l).length<=70000
 c:m.c < (wF m.f m.l).length
 ok:okFa m.fa=true
 g:∀ k,G1 k->GM k\/w0.heap.size<=k
 lt:R < w0.heap.size
 kp:Kp (fun k=>k=R\/GM k) w0 w1
theorem SendAt.next {w0 w1 w2:World} {R:Nat} {m:Nd} {ld rw:Value} {GL G1 GM:Nat->Prop} (h:SendAt w0 w1 R m ld rw GL G1 GM) (k:Nb w1 w2):SendAt w0 w2 R m ld rw GL G1 GM :=
 ⟨h.nb.nb k,h.ld.keep (Kp.ofNb (F:=fun _=>False) k) (fun _ _ h=>h),h.rl,mach_keep h.ma (Kp.ofNb (F:=fun _=>False) k) (fun _ _ h=>h),h.nr,h.ph,h.has,h.len,h.c,h.ok,h.g,h.lt,h.kp.tr (Kp.ofNb (F:=fun k=>k=R\/GM k) k) (fun _ h => .inl h)⟩
theorem SendAt.hl {w0 w1:World} {R:Nat} {m:Nd} {ld rw:Value} {GL G1 GM:Nat->Prop} (h:SendAt w0 w1 R m ld rw GL G1 GM):ld=if m.has then ld else .pointer none:=by rw[if_pos h.has]
theorem SendAt.sent {w0 w1:World} {R:Nat} {m:Nd} {ld rw:Value} {GL G1 GM:Nat->Prop} (h:SendAt w0 w1 R m ld rw GL G1 GM) :
    Calls Tryz.prog 118 #[.pointer (some ⟨R,0,none⟩)] w1 (RT w0 R m.goOn.1 m.goOn.2 ld GL GM) :=
 nsentOne_any R m ld rw GL G1 GM w0 w1 h.nb h.ld h.rl h.ma h.nr h.ph h.has h.len h.c h.ok h.g h.kp
theorem SendAt.wr {w0 w1:World} {R:Nat} {m:Nd} {ld rw:Value} {GL G1 GM:Nat->Prop} (h:SendAt w0 w1 R m ld rw GL G1 GM) (ev:Int) (he:evOk ev=true) (er:Nat) :
    Calls Tryz.prog 117 #[.pointer (some ⟨R,0,none⟩),.int .i64 ev,.int .i64 (er:Nat)] w1 (RT w0 R (m.wrong ev er).1 (m.wrong ev er).2 ld GL GM):=by
 refine (nwrong_any R m m.c ld rw ev er w1 h.nb h.ok he).mono ?_
 intro e w' q
 have hph:(m.wrong ev er).1.ph≠2/\(m.wrong ev er).1.ph≠3:=by
  unfold Nd.wrong
  show (if (doFa m.fa ev).O then 10 else 5)≠2/\(if (doFa m.fa ev).O then 10 else 5)≠3
  split<;>omega
 refine NT.rt h.kp q rfl ?_ ?_ hph
 ·unfold Nd.count
  rw[if_neg hph.2]
  rfl
 ·exact h.hl
theorem SendAt.lost {w0 w1:World} {R:Nat} {m:Nd} {ld rw:Value} {GL G1 GM:Nat->Prop} (h:SendAt w0 w1 R m ld rw GL G1 GM) (a:Option Addr) (cap:Nat) (hbs:Bs w1 a cap m.sta.l) (hab:∀ b o t,a=some ⟨b,o,t⟩->G1 b\/w0.heap.size<=b) :
    Calls Tryz.prog 119 #[.pointer (some ⟨R,0,none⟩),staV m.sta (.slice a m.sta.l.length cap)] w1 (RT w0 R (Nd.heard { m with ph:=3,c:=0,snd:=false } 3).1 (Nd.heard { m with ph:=3,c:=0,snd:=false } 3).2 ld GL GM) :=
 nlose_any R m m.c ld rw GL G1 GM a cap w0 w1 h.nb h.ma h.nr h.ok hbs hab h.hl h.g h.lt h.kp
theorem ntakeSend_any (R:Nat) (n:Nd) (ld rw:Value) (GL GM:Nat->Prop) (b:Nat) (w:World) (h:NB w R n n.c ld rw) (hld:LoadAt w ld n.f n.l GL) (hRL:¬GL R) (hap:∀ k,GL k->¬GM k) (hm:MachAt w rw n.kn n.x GM) (hR:¬GM R) (hp:n.ph=2) (hhas:n.has=true) (hfr:Fr n.f n.l) (hc:n.c < (rawF n.f n.l).length+10) (ho:okFa n.fa=true) (hb:b<=1) (hx:n.x.length<=65000) (hB:Both w) (hcx:CxN w R GL GM) :
    Calls Tryz.prog 66 #[.pointer (some ⟨R,0,none⟩),.int .u8 (b:Nat)] w (RT w R (n.send b).1 (n.send b).2 ld GL GM):=by
 obtain⟨w0,hw0⟩:∃ w0,w0=w.alloc (.cells #[.int .i64 0,.int .i64 0,.int .i64 0,.int .u32 0,.bool false,.bool false,.bool false,.bool false,.bool false,.int .u8 0,.int .u8 0,.int .u32 0,.slice none 0 0] 36):=⟨_,rfl⟩
 have n0:Nb w w0:=by rw[hw0];exact Nb.rfl.al _
 have s0:w0.heap.size=w.heap.size+1:=by rw[hw0,World.size_alloc]
 have X0:=Lib.hid (show Blk w0 w.heap.size #[.int .i64 0,.int .i64 0,.int .i64 0,.int .u32 0,.bool false,.bool false,.bool false,.bool false,.bool false,.int .u8 0,.int .u8 0,.int .u32 0,.slice none 0 0] 36 by rw[hw0];exact Blk.new _ _ _)
 have N0:=Lib.hid n0
 have HW0:=Lib.hid hw0
 have S0:=Lib.hid s0
 clear n0 hw0 s0
 have CX:=Lib.hid hcx
 have hRw:=NB.lt h
 have hln:=hfr.len.1
 have hln2:=hfr.raw_len.2
 have h0:=h.nb N0.out
 have hld0:=hld.nb N0.out
 have hm0:=mach_keep hm (Kp.ofNb (F:=fun _=>False) N0.out) (fun _ _ h=>h)
 have cx0:=hcx.up N0.out.size
 have HS:=Lib.hid (see9_any rw n.kn n.x GM b w0 hm0 hb hx (hB.below N0.out))
 obtain⟨c0,c1,c2,c3,c4,c5,c6,c7,c8,c9⟩:=Blk.c10 (h)
 obtain⟨m,hmn⟩:∃ m:Nd,m={ n with x:=n.x++[b] }:=⟨_,rfl⟩
 have HSA:=Lib.hid (fun w1 G1 (m1:MachAt w1 rw n.kn (n.x++[b]) G1) (k1:Kp GM w0 w1) (g1:∀ k,G1 k->GM k\/w0.heap.size<=k) =>
  (show SendAt w0 w1 R m ld rw GL G1 GM from by
   rw[hmn]
   exact⟨h0.keep k1 hR,hld0.keep k1 hap,hRL,m1,fun hg=>by
    rcases g1 R hg with h1 | h1
    ·exact hR h1
    ·have:=NB.lt h0;omega,hp,hhas,by show (wF n.f n.l).length<=_;omega,by show n.c < (wF n.f n.l).length;omega,ho,g1,NB.lt h0,k1.mono (fun _ _ h => .inr h)⟩))
 have hsta:m.sta=staOf (scS n.kn (n.x++[b])):=by rw[hmn];rfl
 have hcm:m.c=n.c:=by rw[hmn]
 have hfm:m.f=n.f:=by rw[hmn]
 have hlm:m.l=n.l:=by rw[hmn]
 have hrw:n.send b=(if m.c=ackF m.f m.l then (if b=1 then m.wrong 5 9 else m.goOn) else if b=(wF m.f m.l).getD m.c 0 then m.goOn else if (wF m.f m.l).getD m.c 0=1/\m.c < arbF m.f m.l then Nd.heard { m with ph:=3,c:=0,snd:=false } 3 else m.wrong 3 5):=by
  rw[hmn];rfl
 have hy:=hfr.w_bit hc
 rw[<- hcm,<- hfm,<- hlm] at hy
 obtain⟨y,hyy⟩:∃ y,(wF m.f m.l).getD m.c 0=y:=⟨_,rfl⟩
 rw[hyy] at hy hrw
 have HLN:Hid ((wF m.f m.l).length<=70000/\m.c < (wF m.f m.l).length):=Lib.hid (by rw[hcm,hfm,hlm];omega)
 rw[hrw]
 unfold SeeS at HS
 rw[<- hsta] at HS
 obtain⟨s,hs⟩:∃ s,m.sta=s:=⟨_,rfl⟩
 rw[hs] at HS
 have HST:=Lib.hid hs
 have XC:=Lib.hid (X0.out)
 clear h h0 hld hld0 hRL hap hm hm0 cx0 hR hp hhas hfr hc ho hx hB hcx hmn hsta hcm hfm hlm hrw hln hln2 hs
 obtain⟨sk,se,⟨K,I,X,Rr,B,E,S,Dd,V,A⟩,sl⟩:=s
 simp only[staV] at HS
 obtain⟨⟨rn,⟨ek,ee,⟨eK,eI,eX,eR,eB,eE,eS,eD,eV,eA⟩,el⟩⟩,hr⟩:∃ r:Nd × Ev,r=(if m.c=ackF m.f m.l then (if b=1 then m.wrong 5 9 else m.goOn) else if b=y then m.goOn else if y=1/\m.c < arbF m.f m.l then Nd.heard { m with ph:=3,c:=0,snd:=false } 3 else m.wrong 3 5):=⟨_,rfl⟩
 rw[<- hr]
 have HRR:=Lib.hid hr
 have HYY:=Lib.hid hyy
 clear hr hyy
 go_enter Tryz.func66,Tryz.ntmps66
 go_wp2_with fail
 rw[<- HW0.out]
 refine HS.out.mono ?_
 rintro e w1 ⟨G1,⟨a,cp,rfl,hbs,hab⟩,m1,k1,g1⟩
 have hsa:=HSA.out w1 G1 m1 k1 g1
 obtain⟨w2,hw2⟩:∃ w2,w2=w1.alloc (.cells #[.int .i64 sk,.int .i64 se,.int .i64 K,.int .u32 I,.bool X,.bool Rr,.bool B,.bool E,.bool S,.int .u8 Dd,.int .u8 V,.int .u32 A,.slice a sl.length cp] 125):=⟨_,rfl⟩
 have n2:Nb w1 w2:=by rw[hw2];exact Nb.rfl.al _
 have Y2:=Lib.hid (show Blk w2 w1.heap.size #[.int .i64 sk,.int .i64 se,.int .i64 K,.int .u32 I,.bool X,.bool Rr,.bool B,.bool E,.bool S,.int .u8 Dd,.int .u8 V,.int .u32 A,.slice a sl.length cp] 125 by rw[hw2];exact Blk.new w1 _ _)
 have X2:=Lib.hid ((X0.out.keep k1 (fun hg=>by have:=CX.out.gm _ hg;omega)).nb n2)
 have S2:=Lib.hid (hsa.next n2)
 have B2:=Lib.hid (hbs.below n2)
 have HAB:=Lib.hid hab
 have HW2:=Lib.hid hw2
 clear c0 c1 c2 c3 c4 c5 c6 c7 c8 c9
 clear m1 k1 g1 hbs hab hsa hw2 n2 HS HSA
 go_wp2_with fail
 rw[<- HW2.out]
 have hdr:=fun w' (k:Nb w2 w')=>ndriveFrame_q R m m.c ld rw GL w' (S2.out.nb.nb k) (S2.out.ld.nb k) HLN.out.2 HLN.out.1
 rw[HYY.out] at hdr
 have HDR:=Lib.hid hdr
 obtain⟨L,aa,ca,aw,cw,rfl,hbL,_⟩:=S2.out.ld
 obtain⟨c0,c1,c2,c3,c4,c5,c6,c7,c8,c9⟩:=Blk.c10 (S2.out.nb)
 obtain⟨z0,z1,z2,z3,z4,z5,z6,z7,z8,z9,z10,z11,z12,z13⟩:=Blk.c14 (hbL)
 have HBL:=Lib.hid hbL
 have hR2:R < w2.heap.size:=NB.lt S2.out.nb
 have hL2:L < w2.heap.size:=hbL.lt
 clear hdr hbL
 have KC:=Lib.hid (fun w' (k:Nb w2 w')=>(⟨(Blk.c10 (S2.out.nb.nb k)).2.2.2.2.2.2.1,(Blk.c14 (HBL.out.nb k)).2.2.2.2.2.2.2.2.2.2.2.1,(Blk.c14 (HBL.out.nb k)).2.2.2.2.2.2.2.2.2.2.2.2.1,(Blk.c14 (HBL.out.nb k)).2.2.2.2.2.2.2.2.2.2.2.2.2⟩:w'.cell? ⟨R,6,none⟩=some (.pointer (some ⟨L,0,none⟩))/\w'.cell? ⟨L,11,none⟩=some (.slice aw (wF m.f m.l).length cw)/\w'.cell? ⟨L,12,none⟩=some (.int .i64 (arbF m.f m.l:Nat))/\w'.cell? ⟨L,13,none⟩=some (.int .i64 (ackF m.f m.l:Nat))))
 go_cut [7,8] from 18 to 26 (fun s7 s8 wx=>s7 = .pointer (some ⟨w2.heap.size,0,none⟩)/\s8 = .int .u8 (y:Nat)/\∃ k,wx=p3 ((w2.alloc (.cells #[.slice none 0 0,.int .i64 0,.int .i64 0] 60)).drewN k) w2.heap.size (.slice aw (wF m.f m.l).length cw) (.int .i64 (arbF m.f m.l:Nat)) (.int .i64 (ackF m.f m.l:Nat)))
 case first =>
  go_region_with ((go_at_call 53;refine (HDR.out _ (by first | exact Nb.drewN _ _ | exact (Nb.rfl.al _).tr (Nb.drewN _ _))).mono ?_;rintro e w5 ⟨rfl,kd,rfl⟩;have D5:Blk ((w2.drewN (1+kd)).alloc (.cells #[.slice none 0 0,.int .i64 0,.int .i64 0] 60)) w2.heap.size #[.slice none 0 0,.int .i64 0,.int .i64 0] 60:=Blk.new (w2.drewN (1+kd)) _ _;have D6:Blk ((w2.alloc (.cells #[.slice none 0 0,.int .i64 0,.int .i64 0] 60)).drewN (1+kd)) w2.heap.size #[.slice none 0 0,.int .i64 0,.int .i64 0] 60:=Blk.new w2 _ _;obtain⟨g0,g1,g2⟩:=D5.f3;obtain⟨q0,q1,q2⟩:=D5.c3;obtain⟨g0',g1',g2'⟩:=D6.f3;obtain⟨q0',q1',q2'⟩:=D6.c3;clear D5 D6;obtain⟨k6,k11,k12,k13⟩:=KC.out ((w2.drewN (1+kd)).alloc (.cells #[.slice none 0 0,.int .i64 0,.int .i64 0] 60)) ((Nb.drewN _ _).al _)))
  all_goals (go_wp2_with fail;go_meet;exact⟨rfl,rfl,_,rfl⟩)
 case rest =>
 obtain⟨rfl,rfl,kd,hwc⟩:=hcut
 have n26:Nb w2 wc:=by rw[hwc];exact p3_nb ((Nb.rfl.al _).tr (Nb.drewN _ _)) (Nat.le_refl _) _ _ _
 have b26:Blk wc w2.heap.size #[.slice aw (wF m.f m.l).length cw,.int .i64 (arbF m.f m.l:Nat),.int .i64 (ackF m.f m.l:Nat)] 60:=by rw[hwc];exact p3_blk _ _ _ (Blk.new w2 _ _)
 have S6:=Lib.hid (S2.out.next n26)
 have B6:=Lib.hid (B2.out.below n26)
 have Y6:=Lib.hid (Y2.out.nb n26)
 have hR6:R < wc.heap.size:=NB.lt S6.out.nb
 obtain⟨c0,c1,c2,c3,c4,c5,c6,c7,c8,c9⟩:=Blk.c10 (S6.out.nb)
 obtain⟨x0,x1,x2,x3,x4,x5,x6,x7,x8,x9,x10,x11,x12⟩:=(Blk.h13 (Y6.out)).2.1
 obtain⟨g0,g1,g2⟩:=b26.c3
 clear KC
 clear hwc n26 b26 HW2
 by_cases hA:m.c=ackF m.f m.l
 ·by_cases hb1:b=1
  ·have hr:((rn,⟨ek,ee,⟨eK,eI,eX,eR,eB,eE,eS,eD,eV,eA⟩,el⟩):Nd × Ev)=m.wrong 5 9:=by rw[HRR.out,if_pos hA,if_pos hb1]
   have dA:(((m.c:Nat):Int)==((ackF m.f m.l:Nat):Int))=true:=by rw[beq_iff_eq];omega
   have d1:((b:Int)==1)=true:=by rw[beq_iff_eq];omega
   have HCL:=Lib.hid (fun w7 (k:Nb wc w7)=>(show Calls Tryz.prog 117 #[.pointer (some ⟨R,0,none⟩),.int .i64 5,.int .i64 9] w7 (RT w0 R rn ⟨ek,ee,⟨eK,eI,eX,eR,eB,eE,eS,eD,eV,eA⟩,el⟩ (.pointer (some ⟨L,0,none⟩)) GL GM) from by
    have q:=(S6.out.next k).wr 5 (by decide) 9
    rw[<- hr] at q
    exact q))
   clear hr hA hb1
   go_wp2_with fail
   go_quiet (fail)
   go_wp2_with fail
   refine (HCL.out _ (Nb.drewN _ _)).mono ?_
   intro e w8 q
   have X8:=Lib.hid (X0.out.keep q.kp (fun hg=>by
    rcases hg with h | h
    ·omega
    ·have:=CX.out.gm _ h;omega))
   obtain⟨a8,c8,rfl,q⟩:=q.is
   have Z:=Lib.hid q
   clear q
   simp only[evV,staV]
   have hb:=Blk.row (X8.out) (staC (⟨ek,ee,⟨eK,eI,eX,eR,eB,eE,eS,eD,eV,eA⟩,el⟩:Sta) (.slice a8 el.length c8))
   have kq:=Kp.row w8 (w.heap.size) (staC (⟨ek,ee,⟨eK,eI,eX,eR,eB,eE,eS,eD,eV,eA⟩,el⟩:Sta) (.slice a8 el.length c8))
   have HXX:=Lib.hid (X8.out)
   have HBQ:=Lib.hid hb
   have KQ:=Lib.hid kq
   clear hb kq
   go_wp2_with (refine wpList_store_row (by rfl) _ _ _ (by rfl) _ _ (by rfl) (by rfl) _ _ HXX.out (by kernel_rfl) (by rfl) (by simp[Value.oneCell']) ?_)
   change bodyPost _ _ _ _ _ (World.setRow w8 (w.heap.size) (staC (⟨ek,ee,⟨eK,eI,eX,eR,eB,eE,eS,eD,eV,eA⟩,el⟩:Sta) (.slice a8 el.length c8)))
   have hb:=HBQ.out
   have kq:=KQ.out
   generalize World.setRow w8 (w.heap.size) (staC (⟨ek,ee,⟨eK,eI,eX,eR,eB,eE,eS,eD,eV,eA⟩,el⟩:Sta) (.slice a8 el.length c8))=WW at hb kq HBQ KQ ⊢
   obtain⟨_,⟨e0,e1,e2,e3,e4,e5,e6,e7,e8,e9,e10,e11,e12⟩,_⟩:=Blk.h13 hb
   exact bodyPost_ret (v:=staV (⟨ek,ee,⟨eK,eI,eX,eR,eB,eE,eS,eD,eV,eA⟩,el⟩:Sta) (.slice a8 el.length c8)) (by simp[results,Tryz.results66,go_sem,staV,moreS,noF,e0,e1,e2,e3,e4,e5,e6,e7,e8,e9,e10,e11,e12]) rfl (RT.mk N0.out Z.out kq CX.out (Nat.le_refl _) (by have:=S0.out;omega))
  ·have hr:((rn,⟨ek,ee,⟨eK,eI,eX,eR,eB,eE,eS,eD,eV,eA⟩,el⟩):Nd × Ev)=m.goOn:=by rw[HRR.out,if_pos hA,if_neg hb1]
   have dA:(((m.c:Nat):Int)==((ackF m.f m.l:Nat):Int))=true:=by rw[beq_iff_eq];omega
   have d1:((b:Int)==1)=false:=by rw[beq_eq_false_iff_ne];omega
   have HCL:=Lib.hid (fun w7 (k:Nb wc w7)=>(show Calls Tryz.prog 118 #[.pointer (some ⟨R,0,none⟩)] w7 (RT w0 R rn ⟨ek,ee,⟨eK,eI,eX,eR,eB,eE,eS,eD,eV,eA⟩,el⟩ (.pointer (some ⟨L,0,none⟩)) GL GM) from by
    have q:=(S6.out.next k).sent
    rw[<- hr] at q
    exact q))
   clear hr hA hb1
   go_wp2_with fail
   go_quiet (fail)
   go_wp2_with fail
   go_quiet (fail)
   go_wp2_with fail
   refine (HCL.out _ (Nb.drewN _ _)).mono ?_
   intro e w8 q
   have X8:=Lib.hid (X0.out.keep q.kp (fun hg=>by
    rcases hg with h | h
    ·omega
    ·have:=CX.out.gm _ h;omega))
   obtain⟨a8,c8,rfl,q⟩:=q.is
   have Z:=Lib.hid q
   clear q
   simp only[evV,staV]
   have hb:=Blk.row (X8.out) (staC (⟨ek,ee,⟨eK,eI,eX,eR,eB,eE,eS,eD,eV,eA⟩,el⟩:Sta) (.slice a8 el.length c8))
   have kq:=Kp.row w8 (w.heap.size) (staC (⟨ek,ee,⟨eK,eI,eX,eR,eB,eE,eS,eD,eV,eA⟩,el⟩:Sta) (.slice a8 el.length c8))
   have HXX:=Lib.hid (X8.out)
   have HBQ:=Lib.hid hb
   have KQ:=Lib.hid kq
   clear hb kq
   go_wp2_with (refine wpList_store_row (by rfl) _ _ _ (by rfl) _ _ (by rfl) (by rfl) _ _ HXX.out (by kernel_rfl) (by rfl) (by simp[Value.oneCell']) ?_)
   change bodyPost _ _ _ _ _ (World.setRow w8 (w.heap.size) (staC (⟨ek,ee,⟨eK,eI,eX,eR,eB,eE,eS,eD,eV,eA⟩,el⟩:Sta) (.slice a8 el.length c8)))
   have hb:=HBQ.out
   have kq:=KQ.out
   generalize World.setRow w8 (w.heap.size) (staC (⟨ek,ee,⟨eK,eI,eX,eR,eB,eE,eS,eD,eV,eA⟩,el⟩:Sta) (.slice a8 el.length c8))=WW at hb kq HBQ KQ ⊢
   obtain⟨_,⟨e0,e1,e2,e3,e4,e5,e6,e7,e8,e9,e10,e11,e12⟩,_⟩:=Blk.h13 hb
   exact bodyPost_ret (v:=staV (⟨ek,ee,⟨eK,eI,eX,eR,eB,eE,eS,eD,eV,eA⟩,el⟩:Sta) (.slice a8 el.length c8)) (by simp[results,Tryz.results66,go_sem,staV,moreS,noF,e0,e1,e2,e3,e4,e5,e6,e7,e8,e9,e10,e11,e12]) rfl (RT.mk N0.out Z.out kq CX.out (Nat.le_refl _) (by have:=S0.out;omega))
 ·by_cases hY:b=y
  ·have hr:((rn,⟨ek,ee,⟨eK,eI,eX,eR,eB,eE,eS,eD,eV,eA⟩,el⟩):Nd × Ev)=m.goOn:=by rw[HRR.out,if_neg hA,if_pos hY]
   have dA:(((m.c:Nat):Int)==((ackF m.f m.l:Nat):Int))=false:=by rw[beq_eq_false_iff_ne];omega
   have dY:((b:Int)==(y:Int))=true:=by rw[beq_iff_eq];omega
   have HCL:=Lib.hid (fun w7 (k:Nb wc w7)=>(show Calls Tryz.prog 118 #[.pointer (some ⟨R,0,none⟩)] w7 (RT w0 R rn ⟨ek,ee,⟨eK,eI,eX,eR,eB,eE,eS,eD,eV,eA⟩,el⟩ (.pointer (some ⟨L,0,none⟩)) GL GM) from by
    have q:=(S6.out.next k).sent
    rw[<- hr] at q
    exact q))
   clear hr hA hY
   go_wp2_with fail
   go_quiet (fail)
   go_wp2_with fail
   go_quiet (fail)
   go_wp2_with fail
   refine (HCL.out _ (Nb.drewN _ _)).mono ?_
   intro e w8 q
   have X8:=Lib.hid (X0.out.keep q.kp (fun hg=>by
    rcases hg with h | h
    ·omega
    ·have:=CX.out.gm _ h;omega))
   obtain⟨a8,c8,rfl,q⟩:=q.is
   have Z:=Lib.hid q
   clear q
   simp only[evV,staV]
   have hb:=Blk.row (X8.out) (staC (⟨ek,ee,⟨eK,eI,eX,eR,eB,eE,eS,eD,eV,eA⟩,el⟩:Sta) (.slice a8 el.length c8))
   have kq:=Kp.row w8 (w.heap.size) (staC (⟨ek,ee,⟨eK,eI,eX,eR,eB,eE,eS,eD,eV,eA⟩,el⟩:Sta) (.slice a8 el.length c8))
   have HXX:=Lib.hid (X8.out)
   have HBQ:=Lib.hid hb
   have KQ:=Lib.hid kq
   clear hb kq
   go_wp2_with (refine wpList_store_row (by rfl) _ _ _ (by rfl) _ _ (by rfl) (by rfl) _ _ HXX.out (by kernel_rfl) (by rfl) (by simp[Value.oneCell']) ?_)
   change bodyPost _ _ _ _ _ (World.setRow w8 (w.heap.size) (staC (⟨ek,ee,⟨eK,eI,eX,eR,eB,eE,eS,eD,eV,eA⟩,el⟩:Sta) (.slice a8 el.length c8)))
   have hb:=HBQ.out
   have kq:=KQ.out
   generalize World.setRow w8 (w.heap.size) (staC (⟨ek,ee,⟨eK,eI,eX,eR,eB,eE,eS,eD,eV,eA⟩,el⟩:Sta) (.slice a8 el.length c8))=WW at hb kq HBQ KQ ⊢
   obtain⟨_,⟨e0,e1,e2,e3,e4,e5,e6,e7,e8,e9,e10,e11,e12⟩,_⟩:=Blk.h13 hb
   exact bodyPost_ret (v:=staV (⟨ek,ee,⟨eK,eI,eX,eR,eB,eE,eS,eD,eV,eA⟩,el⟩:Sta) (.slice a8 el.length c8)) (by simp[results,Tryz.results66,go_sem,staV,moreS,noF,e0,e1,e2,e3,e4,e5,e6,e7,e8,e9,e10,e11,e12]) rfl (RT.mk N0.out Z.out kq CX.out (Nat.le_refl _) (by have:=S0.out;omega))
  ·by_cases hQ:y=1/\m.c < arbF m.f m.l
   ·have hr:((rn,⟨ek,ee,⟨eK,eI,eX,eR,eB,eE,eS,eD,eV,eA⟩,el⟩):Nd × Ev)=Nd.heard { m with ph:=3,c:=0,snd:=false } 3:=by rw[HRR.out,if_neg hA,if_neg hY,if_pos hQ]
    have dA:(((m.c:Nat):Int)==((ackF m.f m.l:Nat):Int))=false:=by rw[beq_eq_false_iff_ne];omega
    have dY:((b:Int)==(y:Int))=false:=by rw[beq_eq_false_iff_ne];omega
    have dy:((y:Int)==1)=true:=by rw[beq_iff_eq];omega
    have dq:decide (((m.c:Nat):Int) < ((arbF m.f m.l:Nat):Int))=true:=decide_eq_true (by omega)
    have dq2:decide (m.c < arbF m.f m.l)=true:=decide_eq_true (by omega)
    have HCL:=Lib.hid (fun w7 (k:Nb wc w7)=>(show Calls Tryz.prog 119 #[.pointer (some ⟨R,0,none⟩),.agg #[.int .i64 sk,.int .i64 se,.int .i64 K,.int .u32 I,.bool X,.bool Rr,.bool B,.bool E,.bool S,.int .u8 Dd,.int .u8 V,.int .u32 A,.slice a sl.length cp]] w7 (RT w0 R rn ⟨ek,ee,⟨eK,eI,eX,eR,eB,eE,eS,eD,eV,eA⟩,el⟩ (.pointer (some ⟨L,0,none⟩)) GL GM) from by
     have q:=(S6.out.next k).lost a cp (by rw[HST.out];exact B6.out.below k) HAB.out
     rw[<- hr,HST.out] at q
     exact q))
    clear hr hA hY hQ
    go_wp2_with fail
    go_quiet (fail)
    go_wp2_with fail
    go_quiet (fail)
    go_wp2_with fail
    go_quiet (fail)
    go_wp2_with fail
    refine (HCL.out _ (Nb.drewN _ _)).mono ?_
    intro e w8 q
    have X8:=Lib.hid (X0.out.keep q.kp (fun hg=>by
     rcases hg with h | h
     ·omega
     ·have:=CX.out.gm _ h;omega))
    obtain⟨a8,c8,rfl,q⟩:=q.is
    have Z:=Lib.hid q
    clear q
    simp only[evV,staV]
    have hb:=Blk.row (X8.out) (staC (⟨ek,ee,⟨eK,eI,eX,eR,eB,eE,eS,eD,eV,eA⟩,el⟩:Sta) (.slice a8 el.length c8))
    have kq:=Kp.row w8 (w.heap.size) (staC (⟨ek,ee,⟨eK,eI,eX,eR,eB,eE,eS,eD,eV,eA⟩,el⟩:Sta) (.slice a8 el.length c8))
    have HXX:=Lib.hid (X8.out)
    have HBQ:=Lib.hid hb
    have KQ:=Lib.hid kq
    clear hb kq
    go_wp2_with (refine wpList_store_row (by rfl) _ _ _ (by rfl) _ _ (by rfl) (by rfl) _ _ HXX.out (by kernel_rfl) (by rfl) (by simp[Value.oneCell']) ?_)
    change bodyPost _ _ _ _ _ (World.setRow w8 (w.heap.size) (staC (⟨ek,ee,⟨eK,eI,eX,eR,eB,eE,eS,eD,eV,eA⟩,el⟩:Sta) (.slice a8 el.length c8)))
    have hb:=HBQ.out
    have kq:=KQ.out
    generalize World.setRow w8 (w.heap.size) (staC (⟨ek,ee,⟨eK,eI,eX,eR,eB,eE,eS,eD,eV,eA⟩,el⟩:Sta) (.slice a8 el.length c8))=WW at hb kq HBQ KQ ⊢
    obtain⟨_,⟨e0,e1,e2,e3,e4,e5,e6,e7,e8,e9,e10,e11,e12⟩,_⟩:=Blk.h13 hb
    exact bodyPost_ret (v:=staV (⟨ek,ee,⟨eK,eI,eX,eR,eB,eE,eS,eD,eV,eA⟩,el⟩:Sta) (.slice a8 el.length c8)) (by simp[results,Tryz.results66,go_sem,staV,moreS,noF,e0,e1,e2,e3,e4,e5,e6,e7,e8,e9,e10,e11,e12]) rfl (RT.mk N0.out Z.out kq CX.out (Nat.le_refl _) (by have:=S0.out;omega))
   ·by_cases hy1:y=1
    ·have hr:((rn,⟨ek,ee,⟨eK,eI,eX,eR,eB,eE,eS,eD,eV,eA⟩,el⟩):Nd × Ev)=m.wrong 3 5:=by rw[HRR.out,if_neg hA,if_neg hY,if_neg hQ]
     have dA:(((m.c:Nat):Int)==((ackF m.f m.l:Nat):Int))=false:=by rw[beq_eq_false_iff_ne];omega
     have dY:((b:Int)==(y:Int))=false:=by rw[beq_eq_false_iff_ne];omega
     have dy:((y:Int)==1)=true:=by rw[beq_iff_eq];omega
     have dq:decide (((m.c:Nat):Int) < ((arbF m.f m.l:Nat):Int))=false:=decide_eq_false (by omega)
     have dq2:decide (m.c < arbF m.f m.l)=false:=decide_eq_false (by omega)
     have HCL:=Lib.hid (fun w7 (k:Nb wc w7)=>(show Calls Tryz.prog 117 #[.pointer (some ⟨R,0,none⟩),.int .i64 3,.int .i64 5] w7 (RT w0 R rn ⟨ek,ee,⟨eK,eI,eX,eR,eB,eE,eS,eD,eV,eA⟩,el⟩ (.pointer (some ⟨L,0,none⟩)) GL GM) from by
      have q:=(S6.out.next k).wr 3 (by decide) 5
      rw[<- hr] at q
      exact q))
     clear hr hA hY hy1
     clear hQ
     go_wp2_with fail
     go_quiet (fail)
     go_wp2_with fail
     go_quiet (fail)
     go_wp2_with fail
     go_quiet (fail)
     go_wp2_with fail
     refine (HCL.out _ (Nb.drewN _ _)).mono ?_
     intro e w8 q
     have X8:=Lib.hid (X0.out.keep q.kp (fun hg=>by
      rcases hg with h | h
      ·omega
      ·have:=CX.out.gm _ h;omega))
     obtain⟨a8,c8,rfl,q⟩:=q.is
     have Z:=Lib.hid q
     clear q
     simp only[evV,staV]
     have hb:=Blk.row (X8.out) (staC (⟨ek,ee,⟨eK,eI,eX,eR,eB,eE,eS,eD,eV,eA⟩,el⟩:Sta) (.slice a8 el.length c8))
     have kq:=Kp.row w8 (w.heap.size) (staC (⟨ek,ee,⟨eK,eI,eX,eR,eB,eE,eS,eD,eV,eA⟩,el⟩:Sta) (.slice a8 el.length c8))
     have HXX:=Lib.hid (X8.out)
     have HBQ:=Lib.hid hb
     have KQ:=Lib.hid kq
     clear hb kq
     go_wp2_with (refine wpList_store_row (by rfl) _ _ _ (by rfl) _ _ (by rfl) (by rfl) _ _ HXX.out (by kernel_rfl) (by rfl) (by simp[Value.oneCell']) ?_)
     change bodyPost _ _ _ _ _ (World.setRow w8 (w.heap.size) (staC (⟨ek,ee,⟨eK,eI,eX,eR,eB,eE,eS,eD,eV,eA⟩,el⟩:Sta) (.slice a8 el.length c8)))
     have hb:=HBQ.out
     have kq:=KQ.out
     generalize World.setRow w8 (w.heap.size) (staC (⟨ek,ee,⟨eK,eI,eX,eR,eB,eE,eS,eD,eV,eA⟩,el⟩:Sta) (.slice a8 el.length c8))=WW at hb kq HBQ KQ ⊢
     obtain⟨_,⟨e0,e1,e2,e3,e4,e5,e6,e7,e8,e9,e10,e11,e12⟩,_⟩:=Blk.h13 hb
     exact bodyPost_ret (v:=staV (⟨ek,ee,⟨eK,eI,eX,eR,eB,eE,eS,eD,eV,eA⟩,el⟩:Sta) (.slice a8 el.length c8)) (by simp[results,Tryz.results66,go_sem,staV,moreS,noF,e0,e1,e2,e3,e4,e5,e6,e7,e8,e9,e10,e11,e12]) rfl (RT.mk N0.out Z.out kq CX.out (Nat.le_refl _) (by have:=S0.out;omega))
    ·have hr:((rn,⟨ek,ee,⟨eK,eI,eX,eR,eB,eE,eS,eD,eV,eA⟩,el⟩):Nd × Ev)=m.wrong 3 5:=by rw[HRR.out,if_neg hA,if_neg hY,if_neg hQ]
     have dA:(((m.c:Nat):Int)==((ackF m.f m.l:Nat):Int))=false:=by rw[beq_eq_false_iff_ne];omega
     have dY:((b:Int)==(y:Int))=false:=by rw[beq_eq_false_iff_ne];omega
     have dy:((y:Int)==1)=false:=by rw[beq_eq_false_iff_ne];omega
     have HCL:=Lib.hid (fun w7 (k:Nb wc w7)=>(show Calls Tryz.prog 117 #[.pointer (some ⟨R,0,none⟩),.int .i64 3,.int .i64 5] w7 (RT w0 R rn ⟨ek,ee,⟨eK,eI,eX,eR,eB,eE,eS,eD,eV,eA⟩,el⟩ (.pointer (some ⟨L,0,none⟩)) GL GM) from by
      have q:=(S6.out.next k).wr 3 (by decide) 5
      rw[<- hr] at q
      exact q))
     clear hr hA hY hy1
     clear hQ
     go_wp2_with fail
     go_quiet (fail)
     go_wp2_with fail
     go_quiet (fail)
     go_wp2_with fail
     go_quiet (fail)
     go_wp2_with fail
     refine (HCL.out _ (Nb.drewN _ _)).mono ?_
     intro e w8 q
     have X8:=Lib.hid (X0.out.keep q.kp (fun hg=>by
      rcases hg with h | h
      ·omega
      ·have:=CX.out.gm _ h;omega))
     obtain⟨a8,c8,rfl,q⟩:=q.is
     have Z:=Lib.hid q
     clear q
     simp only[evV,staV]
     have hb:=Blk.row (X8.out) (staC (⟨ek,ee,⟨eK,eI,eX,eR,eB,eE,eS,eD,eV,eA⟩,el⟩:Sta) (.slice a8 el.length c8))
     have kq:=Kp.row w8 (w.heap.size) (staC (⟨ek,ee,⟨eK,eI,eX,eR,eB,eE,eS,eD,eV,eA⟩,el⟩:Sta) (.slice a8 el.length c8))
     have HXX:=Lib.hid (X8.out)
     have HBQ:=Lib.hid hb
     have KQ:=Lib.hid kq
     clear hb kq
     go_wp2_with (refine wpList_store_row (by rfl) _ _ _ (by rfl) _ _ (by rfl) (by rfl) _ _ HXX.out (by kernel_rfl) (by rfl) (by simp[Value.oneCell']) ?_)
     change bodyPost _ _ _ _ _ (World.setRow w8 (w.heap.size) (staC (⟨ek,ee,⟨eK,eI,eX,eR,eB,eE,eS,eD,eV,eA⟩,el⟩:Sta) (.slice a8 el.length c8)))
     have hb:=HBQ.out
     have kq:=KQ.out
     generalize World.setRow w8 (w.heap.size) (staC (⟨ek,ee,⟨eK,eI,eX,eR,eB,eE,eS,eD,eV,eA⟩,el⟩:Sta) (.slice a8 el.length c8))=WW at hb kq HBQ KQ ⊢
     obtain⟨_,⟨e0,e1,e2,e3,e4,e5,e6,e7,e8,e9,e10,e11,e12⟩,_⟩:=Blk.h13 hb
     exact bodyPost_ret (v:=staV (⟨ek,ee,⟨eK,eI,eX,eR,eB,eE,eS,eD,eV,eA⟩,el⟩:Sta) (.slice a8 el.length c8)) (by simp[results,Tryz.results66,go_sem,staV,moreS,noF,e0,e1,e2,e3,e4,e5,e6,e7,e8,e9,e10,e11,e12]) rfl (RT.mk N0.out Z.out kq CX.out (Nat.le_refl _) (by have:=S0.out;omega))
end Go.Proofs.YtipefblpppmabaaGreatDoor
namespace Go.Proofs.YtipefblpppmabaaGreatDoor
set_option linter.unusedVariables false
set_option linter.unusedSimpArgs false
open Go.RowKit
theorem step1 {n:Nd} (h:n.ph=1) (b:Nat):n.step b=if n.has then Nd.send { n with x:=[],snd:=true,ph:=2,c:=0 } b else (if b=0 then Nd.begin { n with snd:=false } else { n with snd:=false },noEv):=by
 unfold Nd.step;rw[if_neg (by omega),if_pos h]
theorem step2 {n:Nd} (h:n.ph=2) (b:Nat):n.step b=n.send b:=by unfold Nd.step;rw[if_neg (by omega),if_neg (by omega),if_pos h]
theorem step3 {n:Nd} (h:n.ph=3) (b:Nat):n.step b=Nd.heard { n with x:=n.x++[b] } 0:=by unfold Nd.step;rw[if_neg (by omega),if_neg (by omega),if_neg (by omega),if_pos h]
theorem ntakePause_rt (R:Nat) (n:Nd) (ld:Value) (GL GM:Nat->Prop) (b:Nat) (w:World) (h:NB w R n n.c ld (.pointer none)) (hl:ld=if n.has then ld else .pointer none) (hcx:CxN w R GL GM) (hp:n.ph=8) (hc:n.c < 3) (hb1:b<=1) (ho:okFa n.fa=true) (hB:Both w):Calls Tryz.prog 71 #[.pointer (some ⟨R,0,none⟩),.int .u8 (b:Nat)] w (RT w R (n.step b).1 (n.step b).2 ld GL GM):=by
 have CX:=Lib.hid hcx
 have hRw:=hcx.lt
 obtain⟨w0,hw0⟩:∃ w0,w0=w.alloc (.cells #[.int .i64 0,.int .i64 0,.int .i64 0,.int .u32 0,.bool false,.bool false,.bool false,.bool false,.bool false,.int .u8 0,.int .u8 0,.int .u32 0,.slice none 0 0] 36):=⟨_,rfl⟩
 have n0:Nb w w0:=by rw[hw0];exact Nb.rfl.al _
 have s0:w0.heap.size=w.heap.size+1:=by rw[hw0,World.size_alloc]
 have X0:=Lib.hid (show Blk w0 w.heap.size #[.int .i64 0,.int .i64 0,.int .i64 0,.int .u32 0,.bool false,.bool false,.bool false,.bool false,.bool false,.int .u8 0,.int .u8 0,.int .u32 0,.slice none 0 0] 36 by rw[hw0];exact Blk.new _ _ _)
 have N0:=Lib.hid n0
 have HW0:=Lib.hid hw0
 have S0:=Lib.hid s0
 clear n0 hw0 s0
 have HO:=Lib.hid (fun w' p (q:NB w' R n n.c ld (.pointer none))=>nstep_any R n n.c ld 3 p w' q rfl (by omega))
 have HH:=Lib.hid (nhear_any R n n.c ld (.pointer none) GL GM w0 (h.nb N0.out) ho (hB.below N0.out) hl (hcx.up N0.out.size))
 have HM:=Lib.hid (nmode_any R n n.c ld (.pointer none) w0 (h.nb N0.out) ho)
 have HG:=Lib.hid (nbegin_any R n n.c ld (.pointer none) 6 w0 (h.nb N0.out))
 rw[step8 hp]
 have HF:=Lib.hid (fun p (hpp:p≠2/\p≠3) w' q k=>NT.rt (GL:=GL) (GM:=GM) (ev:=noEv) (ld0:=ld) (e := .returned noEvV) (w':=w') Kp.rfl (⟨rfl,q,k⟩:NT w0 R (if n.c+1=3 then n.to p else { n with c:=n.c+1 }) (if n.c+1=3 then n.to p else { n with c:=n.c+1 }).c ld (.pointer none) noEvV _ w') rfl (st_parts n 3 p ⟨by omega,by omega⟩ hpp).2.2 (by rw[(st_parts n 3 p ⟨by omega,by omega⟩ hpp).1];exact hl) (st_parts n 3 p ⟨by omega,by omega⟩ hpp).2.1)
 have HF6:=Lib.hid (fun w' q k=>NT.rt (GL:=GL) (GM:=GM) (ev:=noEv) (ld0:=ld) (e := .returned noEvV) (w':=w') Kp.rfl (⟨rfl,q,k⟩:NT w0 R (n.to 6) 0 ld (.pointer none) noEvV _ w') rfl rfl hl ⟨by show (6:Nat)≠2;omega,by show (6:Nat)≠3;omega⟩)
 obtain⟨c0,c1,c2,c3,c4,c5,c6,c7,c8,c9⟩:=Blk.c10 (h)
 have H:=Lib.hid h
 clear h hl ho hB hp hcx
 by_cases hb:b=0
 ·subst hb
  by_cases h2:n.c=2
  ·rw[show n.pause 0=n.begin from by unfold Nd.pause;rw[if_pos rfl,if_pos h2]]
   have dc:((n.c:Nat):Int)=2:=by omega
   rw[dc] at c2
   clear h2 hc dc HO HF HF6 HM HG
   go_enter Tryz.func71,Tryz.ntmps71
   go_wp2_with fail
   rw[<- HW0.out]
   refine (HH.out).mono ?_
   intro e w1 q
   have X1:=Lib.hid (X0.out.keep q.kp (fun hg=>by
    rcases hg with h | h
    ·omega
    ·have:=CX.out.gm _ h;omega))
   obtain⟨a1,cp1,rfl,q⟩:=q.is
   have Z:=Lib.hid q
   clear q
   have hb:=Blk.row (X1.out) (staC moreS (.slice a1 0 cp1))
   have kq:=Kp.row w1 (w.heap.size) (staC moreS (.slice a1 0 cp1))
   have HXX:=Lib.hid (X1.out)
   have HBQ:=Lib.hid hb
   have KQ:=Lib.hid kq
   clear hb kq
   go_wp2_with (refine wpList_store_row (by rfl) _ _ _ (by rfl) _ _ (by rfl) (by rfl) _ _ HXX.out (by kernel_rfl) (by rfl) (by simp[Value.oneCell']) ?_)
   change bodyPost _ _ _ _ _ (World.setRow w1 (w.heap.size) (staC moreS (.slice a1 0 cp1)))
   have hb:=HBQ.out
   have kq:=KQ.out
   generalize World.setRow w1 (w.heap.size) (staC moreS (.slice a1 0 cp1))=WW at hb kq HBQ KQ ⊢
   obtain⟨_,⟨e0,e1,e2,e3,e4,e5,e6,e7,e8,e9,e10,e11,e12⟩,_⟩:=Blk.h13 hb
   exact bodyPost_ret (v:=staV moreS (.slice a1 0 cp1)) (by simp[results,Tryz.results71,go_sem,staV,moreS,noF,e0,e1,e2,e3,e4,e5,e6,e7,e8,e9,e10,e11,e12]) rfl (RT.mk N0.out Z.out kq CX.out (Nat.le_refl _) (by have:=S0.out;omega))
  ·rw[show n.pause 0=n.to 6 from by unfold Nd.pause;rw[if_pos rfl,if_neg h2]]
   have dc:(((n.c:Nat):Int)==2)=false:=by rw[beq_eq_false_iff_ne];omega
   clear h2 hc HO HF HH HM
   go_enter Tryz.func71,Tryz.ntmps71
   go_wp2_with fail
   rw[<- HW0.out]
   refine (HG.out).mono ?_
   rintro e w1 ⟨rfl,q1,k1⟩
   have Z:=Lib.hid (HF6.out _ q1 k1)
   have X1:=Lib.hid (X0.out.keep k1 (by have:=CX.out.lt;omega))
   clear q1 k1
   have hb:=Blk.row (X1.out) (staC moreS (.slice none 0 0))
   have kq:=Kp.row w1 (w.heap.size) (staC moreS (.slice none 0 0))
   have HXX:=Lib.hid (X1.out)
   have HBQ:=Lib.hid hb
   have KQ:=Lib.hid kq
   clear hb kq
   go_wp2_with (refine wpList_store_row (by rfl) _ _ _ (by rfl) _ _ (by rfl) (by rfl) _ _ HXX.out (by kernel_rfl) (by rfl) (by simp[Value.oneCell']) ?_)
   change bodyPost _ _ _ _ _ (World.setRow w1 (w.heap.size) (staC moreS (.slice none 0 0)))
   have hb:=HBQ.out
   have kq:=KQ.out
   generalize World.setRow w1 (w.heap.size) (staC moreS (.slice none 0 0))=WW at hb kq HBQ KQ ⊢
   obtain⟨_,⟨e0,e1,e2,e3,e4,e5,e6,e7,e8,e9,e10,e11,e12⟩,_⟩:=Blk.h13 hb
   exact bodyPost_ret (v:=staV moreS (.slice none 0 0)) (by simp[results,Tryz.results71,go_sem,staV,moreS,noF,e0,e1,e2,e3,e4,e5,e6,e7,e8,e9,e10,e11,e12]) rfl (RT.mk N0.out Z.out kq CX.out (Nat.le_refl _) (by have:=S0.out;omega))
 ·obtain rfl:b=1:=by omega
  have hp1:n.pause 1=if n.c+1=3 then n.to (if n.snd=true/\isFa n.fa=1 then 9 else 1) else { n with c:=n.c+1 }:=by unfold Nd.pause;rw[if_neg hb]
  clear hb hb1 HH HG HF6 hc
  have hm2:isFa n.fa<=2:=by unfold isFa;(repeat' split)<;>omega
  obtain⟨fm,hfm⟩:∃ m,isFa n.fa=m:=⟨_,rfl⟩
  rw[hfm] at HM hm2
  have HFM:=Lib.hid hfm
  clear hfm
  obtain⟨sd,hsd⟩:∃ sd,n.snd=sd:=⟨_,rfl⟩
  rw[hsd] at c8
  have HSD:=Lib.hid hsd
  clear hsd
  cases sd
  ·rw[show n.pause 1=if n.c+1=3 then n.to 1 else { n with c:=n.c+1 } by rw[hp1,if_neg (show ¬(n.snd=true/\isFa n.fa=1) by rw[HSD.out];simp)]]
   clear hp1
   have HS:=Lib.hid (HO.out w0 1 (H.out.nb N0.out))
   obtain⟨m,hm⟩:∃ m,(if n.c+1=3 then n.to 1 else { n with c:=n.c+1 })=m:=⟨_,rfl⟩
   rw[hm] at HS ⊢
   have HFm:=Lib.hid (fun (w':World) (q:NB w' R m m.c ld (.pointer none)) (k:Kp (fun b=>b=R) w0 w')=>(show RT w0 R m noEv ld GL GM (.returned noEvV) w' from by
    have hpp:(1:Nat)≠2/\(1:Nat)≠3:=by omega
    have z:=HF.out 1 hpp w' (by rw[hm];exact q) k
    rw[hm] at z
    exact z))
   clear hm HF
   clear HM HO
   go_enter Tryz.func71,Tryz.ntmps71
   go_wp2_with fail
   rw[<- HW0.out]
   refine (HS.out).mono ?_
   rintro e w1 ⟨rfl,q1,k1⟩
   have Z:=Lib.hid (HFm.out _ q1 k1)
   have X1:=Lib.hid (X0.out.keep k1 (by have:=CX.out.lt;omega))
   clear q1 k1
   have hb:=Blk.row (X1.out) (staC moreS (.slice none 0 0))
   have kq:=Kp.row w1 (w.heap.size) (staC moreS (.slice none 0 0))
   have HXX:=Lib.hid (X1.out)
   have HBQ:=Lib.hid hb
   have KQ:=Lib.hid kq
   clear hb kq
   go_wp2_with (refine wpList_store_row (by rfl) _ _ _ (by rfl) _ _ (by rfl) (by rfl) _ _ HXX.out (by kernel_rfl) (by rfl) (by simp[Value.oneCell']) ?_)
   change bodyPost _ _ _ _ _ (World.setRow w1 (w.heap.size) (staC moreS (.slice none 0 0)))
   have hb:=HBQ.out
   have kq:=KQ.out
   generalize World.setRow w1 (w.heap.size) (staC moreS (.slice none 0 0))=WW at hb kq HBQ KQ ⊢
   obtain⟨_,⟨e0,e1,e2,e3,e4,e5,e6,e7,e8,e9,e10,e11,e12⟩,_⟩:=Blk.h13 hb
   exact bodyPost_ret (v:=staV moreS (.slice none 0 0)) (by simp[results,Tryz.results71,go_sem,staV,moreS,noF,e0,e1,e2,e3,e4,e5,e6,e7,e8,e9,e10,e11,e12]) rfl (RT.mk N0.out Z.out kq CX.out (Nat.le_refl _) (by have:=S0.out;omega))
  ·by_cases h1:fm=1
   ·subst h1
    rw[show n.pause 1=if n.c+1=3 then n.to 9 else { n with c:=n.c+1 } by rw[hp1,if_pos (show (n.snd=true/\isFa n.fa=1) from ⟨HSD.out,HFM.out⟩)]]
    clear hp1
    have HS:=Lib.hid (fun w' (k:Nb w0 w')=>HO.out w' 9 ((H.out.nb N0.out).nb k))
    obtain⟨m,hm⟩:∃ m,(if n.c+1=3 then n.to 9 else { n with c:=n.c+1 })=m:=⟨_,rfl⟩
    rw[hm] at HS ⊢
    have HFm:=Lib.hid (fun (w':World) (q:NB w' R m m.c ld (.pointer none)) (k:Kp (fun b=>b=R) w0 w')=>(show RT w0 R m noEv ld GL GM (.returned noEvV) w' from by
     have hpp:(9:Nat)≠2/\(9:Nat)≠3:=by omega
     have z:=HF.out 9 hpp w' (by rw[hm];exact q) k
     rw[hm] at z
     exact z))
    clear hm HF
    clear HO
    go_enter Tryz.func71,Tryz.ntmps71
    go_wp2_with fail
    rw[<- HW0.out]
    refine HM.out.mono ?_
    rintro e wm ⟨rfl,nm⟩
    have HS1:=Lib.hid (HS.out wm nm)
    have NM:=Lib.hid nm
    clear c0 c1 c2 c3 c4 c5 c6 c7 c8 c9
    clear nm HM
    go_wp2_with fail
    refine HS1.out.mono ?_
    rintro e w1 ⟨rfl,q1,k1⟩
    have Z:=Lib.hid (HFm.out _ q1 (Kp.nr NM.out k1))
    have X1:=Lib.hid ((X0.out.nb NM.out).keep k1 (by have:=CX.out.lt;omega))
    clear q1 k1
    have hb:=Blk.row (X1.out) (staC moreS (.slice none 0 0))
    have kq:=Kp.row w1 (w.heap.size) (staC moreS (.slice none 0 0))
    have HXX:=Lib.hid (X1.out)
    have HBQ:=Lib.hid hb
    have KQ:=Lib.hid kq
    clear hb kq
    go_wp2_with (refine wpList_store_row (by rfl) _ _ _ (by rfl) _ _ (by rfl) (by rfl) _ _ HXX.out (by kernel_rfl) (by rfl) (by simp[Value.oneCell']) ?_)
    change bodyPost _ _ _ _ _ (World.setRow w1 (w.heap.size) (staC moreS (.slice none 0 0)))
    have hb:=HBQ.out
    have kq:=KQ.out
    generalize World.setRow w1 (w.heap.size) (staC moreS (.slice none 0 0))=WW at hb kq HBQ KQ ⊢
    obtain⟨_,⟨e0,e1,e2,e3,e4,e5,e6,e7,e8,e9,e10,e11,e12⟩,_⟩:=Blk.h13 hb
    exact bodyPost_ret (v:=staV moreS (.slice none 0 0)) (by simp[results,Tryz.results71,go_sem,staV,moreS,noF,e0,e1,e2,e3,e4,e5,e6,e7,e8,e9,e10,e11,e12]) rfl (RT.mk N0.out Z.out kq CX.out (Nat.le_refl _) (by have:=S0.out;omega))
   ·have d1:((fm:Int)==1)=false:=by rw[beq_eq_false_iff_ne];omega
    rw[show n.pause 1=if n.c+1=3 then n.to 1 else { n with c:=n.c+1 } by rw[hp1,if_neg (show ¬(n.snd=true/\isFa n.fa=1) by rw[HFM.out];omega)]]
    clear hp1
    have HS:=Lib.hid (fun w' (k:Nb w0 w')=>HO.out w' 1 ((H.out.nb N0.out).nb k))
    obtain⟨m,hm⟩:∃ m,(if n.c+1=3 then n.to 1 else { n with c:=n.c+1 })=m:=⟨_,rfl⟩
    rw[hm] at HS ⊢
    have HFm:=Lib.hid (fun (w':World) (q:NB w' R m m.c ld (.pointer none)) (k:Kp (fun b=>b=R) w0 w')=>(show RT w0 R m noEv ld GL GM (.returned noEvV) w' from by
     have hpp:(1:Nat)≠2/\(1:Nat)≠3:=by omega
     have z:=HF.out 1 hpp w' (by rw[hm];exact q) k
     rw[hm] at z
     exact z))
    clear hm HF
    clear HO h1 hm2
    go_enter Tryz.func71,Tryz.ntmps71
    go_wp2_with fail
    rw[<- HW0.out]
    refine HM.out.mono ?_
    rintro e wm ⟨rfl,nm⟩
    have HS1:=Lib.hid (HS.out wm nm)
    have NM:=Lib.hid nm
    clear c0 c1 c2 c3 c4 c5 c6 c7 c8 c9
    clear nm HM
    go_wp2_with fail
    refine HS1.out.mono ?_
    rintro e w1 ⟨rfl,q1,k1⟩
    have Z:=Lib.hid (HFm.out _ q1 (Kp.nr NM.out k1))
    have X1:=Lib.hid ((X0.out.nb NM.out).keep k1 (by have:=CX.out.lt;omega))
    clear q1 k1
    have hb:=Blk.row (X1.out) (staC moreS (.slice none 0 0))
    have kq:=Kp.row w1 (w.heap.size) (staC moreS (.slice none 0 0))
    have HXX:=Lib.hid (X1.out)
    have HBQ:=Lib.hid hb
    have KQ:=Lib.hid kq
    clear hb kq
    go_wp2_with (refine wpList_store_row (by rfl) _ _ _ (by rfl) _ _ (by rfl) (by rfl) _ _ HXX.out (by kernel_rfl) (by rfl) (by simp[Value.oneCell']) ?_)
    change bodyPost _ _ _ _ _ (World.setRow w1 (w.heap.size) (staC moreS (.slice none 0 0)))
    have hb:=HBQ.out
    have kq:=KQ.out
    generalize World.setRow w1 (w.heap.size) (staC moreS (.slice none 0 0))=WW at hb kq HBQ KQ ⊢
    obtain⟨_,⟨e0,e1,e2,e3,e4,e5,e6,e7,e8,e9,e10,e11,e12⟩,_⟩:=Blk.h13 hb
    exact bodyPost_ret (v:=staV moreS (.slice none 0 0)) (by simp[results,Tryz.results71,go_sem,staV,moreS,noF,e0,e1,e2,e3,e4,e5,e6,e7,e8,e9,e10,e11,e12]) rfl (RT.mk N0.out Z.out kq CX.out (Nat.le_refl _) (by have:=S0.out;omega))
theorem ntakeRecover_rt (R:Nat) (n:Nd) (ld:Value) (GL GM:Nat->Prop) (b:Nat) (w:World) (h:NB w R n n.c ld (.pointer none)) (hl:ld=if n.has then ld else .pointer none) (hcx:CxN w R GL GM) (hp:n.ph=11) (hc:n.c < 176) (ho:okFa n.fa=true):Calls Tryz.prog 74 #[.pointer (some ⟨R,0,none⟩),.int .u8 (b:Nat)] w (RT w R (n.step b).1 (n.step b).2 ld GL GM):=by
 have CX:=Lib.hid hcx
 have hRw:=hcx.lt
 obtain⟨w0,hw0⟩:∃ w0,w0=w.alloc (.cells #[.int .i64 0,.int .i64 0,.int .i64 0,.int .u32 0,.bool false,.bool false,.bool false,.bool false,.bool false,.int .u8 0,.int .u8 0,.int .u32 0,.slice none 0 0] 36):=⟨_,rfl⟩
 have n0:Nb w w0:=by rw[hw0];exact Nb.rfl.al _
 have s0:w0.heap.size=w.heap.size+1:=by rw[hw0,World.size_alloc]
 have X0:=Lib.hid (show Blk w0 w.heap.size #[.int .i64 0,.int .i64 0,.int .i64 0,.int .u32 0,.bool false,.bool false,.bool false,.bool false,.bool false,.int .u8 0,.int .u8 0,.int .u32 0,.slice none 0 0] 36 by rw[hw0];exact Blk.new _ _ _)
 have N0:=Lib.hid n0
 have HW0:=Lib.hid hw0
 have S0:=Lib.hid s0
 clear n0 hw0 s0
 have HO:=Lib.hid (nstep_any R n n.c ld 176 1 w0 (h.nb N0.out) rfl (by omega))
 have HC:=Lib.hid (fun w' m (q:NB w' R m 0 ld (.pointer none)) (ho:okFa m.fa=true)=>ncounted_any R m 0 ld (.pointer none) 6 w' q ho (by decide))
 rw[step11 hp]
 have HO2:=Lib.hid ho
 have HP:=Lib.hid hp
 unfold Nd.back
 have HL:=Lib.hid hl
 have H:=Lib.hid h
 have hcnt:∀ m:Nd,m.ph≠3->m.c=m.count:=fun m hm=>by unfold Nd.count;rw[if_neg hm]
 clear h hl hp ho hcx
 by_cases hb:b=0
 ·subst hb
  simp only[if_pos]
  have he:((n.c:Nat):Int) - ((n.c:Nat):Int)%11=((n.c / 11*11:Nat):Int):=by omega
  have hne:n.c / 11*11≠176:=by omega
  rw[if_neg hne]
  obtain⟨c0,c1,c2,c3,c4,c5,c6,c7,c8,c9⟩:=Blk.c10 (H.out)
  obtain⟨f0,f1,f2,f3,f4,f5,f6,f7,f8,f9⟩:=Blk.f10 (H.out)
  have hQ:NB (w0.drew.setCell ⟨R,2,none⟩ (.int .i64 ((n.c / 11*11:Nat):Int))) R { n with c:=n.c / 11*11 } (n.c / 11*11) ld (.pointer none):=Blk.set ((H.out.nb N0.out).nb (Nb.drewN _ 1)) 2 (.int .i64 ((n.c / 11*11:Nat):Int))
  have kQ:Kp (fun b=>b=R) w0 (w0.drew.setCell ⟨R,2,none⟩ (.int .i64 ((n.c / 11*11:Nat):Int))):=Kp.nr (Nb.drewN w0 1) (Kp.r1 _ _)
  have Z:=Lib.hid (NT.rt (GL:=GL) (GM:=GM) (ev:=noEv) (ld0:=ld) (e := .returned noEvV) Kp.rfl (⟨rfl,hQ,kQ⟩:NT w0 R { n with c:=n.c / 11*11 } (n.c / 11*11) ld (.pointer none) noEvV _ _) rfl (hcnt { n with c:=n.c / 11*11 } (by show n.ph≠3;rw[HP.out];omega)) HL.out ⟨by show n.ph≠2;rw[HP.out];omega,by show n.ph≠3;rw[HP.out];omega⟩)
  rw[<- he] at Z hQ kQ
  have X1:=Lib.hid (X0.out.keep kQ (by omega))
  clear HO HC he hne hcnt hQ kQ
  go_enter Tryz.func74,Tryz.ntmps74
  go_wp2_with fail
  rw[<- HW0.out]
  clear c0 c1 c2 c3 c4 c5 c6 c7 c8 c9
  clear f0 f1 f2 f3 f4 f5 f6 f7 f8 f9
  obtain⟨c0,c1,c2,c3,c4,c5,c6,c7,c8,c9⟩:=Blk.c10 ((H.out.nb N0.out))
  obtain⟨f0,f1,f2,f3,f4,f5,f6,f7,f8,f9⟩:=Blk.f10 ((H.out.nb N0.out))
  go_region
  have hb:=Blk.row (X1.out) (staC moreS (.slice none 0 0))
  have kq:=Kp.row (w0.drew.setCell ⟨R,2,none⟩ (.int .i64 (((n.c:Nat):Int) - ((n.c:Nat):Int)%11))) (w.heap.size) (staC moreS (.slice none 0 0))
  have HXX:=Lib.hid (X1.out)
  have HBQ:=Lib.hid hb
  have KQ:=Lib.hid kq
  clear hb kq
  go_wp2_with (refine wpList_store_row (by rfl) _ _ _ (by rfl) _ _ (by rfl) (by rfl) _ _ HXX.out (by kernel_rfl) (by rfl) (by simp[Value.oneCell']) ?_)
  change bodyPost _ _ _ _ _ (World.setRow (w0.drew.setCell ⟨R,2,none⟩ (.int .i64 (((n.c:Nat):Int) - ((n.c:Nat):Int)%11))) (w.heap.size) (staC moreS (.slice none 0 0)))
  have hb:=HBQ.out
  have kq:=KQ.out
  generalize World.setRow (w0.drew.setCell ⟨R,2,none⟩ (.int .i64 (((n.c:Nat):Int) - ((n.c:Nat):Int)%11))) (w.heap.size) (staC moreS (.slice none 0 0))=WW at hb kq HBQ KQ ⊢
  obtain⟨_,⟨e0,e1,e2,e3,e4,e5,e6,e7,e8,e9,e10,e11,e12⟩,_⟩:=Blk.h13 hb
  exact bodyPost_ret (v:=staV moreS (.slice none 0 0)) (by simp[results,Tryz.results74,go_sem,staV,moreS,noF,e0,e1,e2,e3,e4,e5,e6,e7,e8,e9,e10,e11,e12]) rfl (RT.mk N0.out Z.out kq CX.out (Nat.le_refl _) (by have:=S0.out;omega))
 ·have db:((b:Int)==0)=false:=by rw[beq_eq_false_iff_ne];omega
  simp only[if_neg hb]
  clear hb
  by_cases h176:n.c+1=176
  ·rw[if_pos h176]
   rw[if_pos h176] at HO
   have HF:=Lib.hid (fun w' q k=>NT.rt (GL:=GL) (GM:=GM) (ev:=noEv) (ld0:=ld) (e := .returned noEvV) (w':=w') Kp.rfl (⟨rfl,q,k⟩:NT w0 R { n with fa:=doFa n.fa 6,ph:=1,c:=0 } 0 ld (.pointer none) noEvV _ w') rfl rfl HL.out ⟨by show (1:Nat)≠2;omega,by show (1:Nat)≠3;omega⟩)
   clear hc h176 hcnt
   go_enter Tryz.func74,Tryz.ntmps74
   go_wp2_with fail
   rw[<- HW0.out]
   refine HO.out.mono ?_
   rintro e w1 ⟨rfl,q1,k1⟩
   have HC1:=Lib.hid (HC.out w1 (n.to 1) q1 HO2.out)
   have d1:w1.cell? ⟨R,1,none⟩=some (.int .i64 1):=Blk.cell q1 1
   have K1:=Lib.hid k1
   clear q1 k1
   go_wp2_with fail
   refine HC1.out.mono ?_
   rintro e w2 ⟨rfl,q2,k2⟩
   have Z:=Lib.hid (HF.out _ q2 (K1.out.rr k2))
   have X2:=Lib.hid (X0.out.keep (K1.out.rr k2) (by omega))
   clear q2 k2 HF HO d1
   have hb:=Blk.row (X2.out) (staC moreS (.slice none 0 0))
   have kq:=Kp.row w2 (w.heap.size) (staC moreS (.slice none 0 0))
   have HXX:=Lib.hid (X2.out)
   have HBQ:=Lib.hid hb
   have KQ:=Lib.hid kq
   clear hb kq
   go_wp2_with (refine wpList_store_row (by rfl) _ _ _ (by rfl) _ _ (by rfl) (by rfl) _ _ HXX.out (by kernel_rfl) (by rfl) (by simp[Value.oneCell']) ?_)
   change bodyPost _ _ _ _ _ (World.setRow w2 (w.heap.size) (staC moreS (.slice none 0 0)))
   have hb:=HBQ.out
   have kq:=KQ.out
   generalize World.setRow w2 (w.heap.size) (staC moreS (.slice none 0 0))=WW at hb kq HBQ KQ ⊢
   obtain⟨_,⟨e0,e1,e2,e3,e4,e5,e6,e7,e8,e9,e10,e11,e12⟩,_⟩:=Blk.h13 hb
   exact bodyPost_ret (v:=staV moreS (.slice none 0 0)) (by simp[results,Tryz.results74,go_sem,staV,moreS,noF,e0,e1,e2,e3,e4,e5,e6,e7,e8,e9,e10,e11,e12]) rfl (RT.mk N0.out Z.out kq CX.out (Nat.le_refl _) (by have:=S0.out;omega))
  ·rw[if_neg h176]
   rw[if_neg h176] at HO
   have HF:=Lib.hid (fun w' q k=>NT.rt (GL:=GL) (GM:=GM) (ev:=noEv) (ld0:=ld) (e := .returned noEvV) (w':=w') Kp.rfl (⟨rfl,q,k⟩:NT w0 R { n with c:=n.c+1 } (n.c+1) ld (.pointer none) noEvV _ w') rfl (hcnt { n with c:=n.c+1 } (by show n.ph≠3;rw[HP.out];omega)) HL.out ⟨by show n.ph≠2;rw[HP.out];omega,by show n.ph≠3;rw[HP.out];omega⟩)
   have HPi:Hid (((n.ph:Nat):Int)=11):=Lib.hid (by rw[HP.out];rfl)
   clear hc h176 hcnt
   go_enter Tryz.func74,Tryz.ntmps74
   go_wp2_with fail
   rw[<- HW0.out]
   refine HO.out.mono ?_
   rintro e w1 ⟨rfl,q1,k1⟩
   have d1:w1.cell? ⟨R,1,none⟩=some (.int .i64 (n.ph:Nat)):=Blk.cell q1 1
   rw[HPi.out] at d1
   have Z:=Lib.hid (HF.out _ q1 k1)
   have X1:=Lib.hid (X0.out.keep k1 (by omega))
   clear q1 k1 HF HO
   have hb:=Blk.row (X1.out) (staC moreS (.slice none 0 0))
   have kq:=Kp.row w1 (w.heap.size) (staC moreS (.slice none 0 0))
   have HXX:=Lib.hid (X1.out)
   have HBQ:=Lib.hid hb
   have KQ:=Lib.hid kq
   clear hb kq
   go_wp2_with (refine wpList_store_row (by rfl) _ _ _ (by rfl) _ _ (by rfl) (by rfl) _ _ HXX.out (by kernel_rfl) (by rfl) (by simp[Value.oneCell']) ?_)
   change bodyPost _ _ _ _ _ (World.setRow w1 (w.heap.size) (staC moreS (.slice none 0 0)))
   have hb:=HBQ.out
   have kq:=KQ.out
   generalize World.setRow w1 (w.heap.size) (staC moreS (.slice none 0 0))=WW at hb kq HBQ KQ ⊢
   obtain⟨_,⟨e0,e1,e2,e3,e4,e5,e6,e7,e8,e9,e10,e11,e12⟩,_⟩:=Blk.h13 hb
   exact bodyPost_ret (v:=staV moreS (.slice none 0 0)) (by simp[results,Tryz.results74,go_sem,staV,moreS,noF,e0,e1,e2,e3,e4,e5,e6,e7,e8,e9,e10,e11,e12]) rfl (RT.mk N0.out Z.out kq CX.out (Nat.le_refl _) (by have:=S0.out;omega))
theorem RT.mk2 {w w0 wd WW:World} {R blk:Nat} {m:Nd} {ev:Ev} {ld:Value} {GL GM:Nat->Prop} {e:Ending} (hn:Kp (fun k=>k=R) w w0) (r:RT w0 R m ev ld GL GM e wd) (kq:Kp (fun x=>x=blk) wd WW) (hx:CxN w R GL GM) (hb1:w.heap.size<=blk) (hb2:blk < w0.heap.size):RT w R m ev ld GL GM e WW:=by
 obtain⟨G,l2,r2,a,c,h1,h2,h3,h4,h5,h6,h7,h8,h9⟩:=r
 have hG:∀ k,G k->k≠blk:=fun k hk e=>by
  rcases h7 k hk with h | h
  ·have:=hx.gm k h;omega
  ·omega
 refine⟨G,l2,r2,a,c,h1,h2.keepKp kq (fun b o t e hb => ?_),fun b o t e=>(h3 b o t e).imp id (fun h=>h.imp id (fun h=>Nat.le_trans hn.size h)),h4.keep kq (by have:=hx.lt;omega),h5,h6.keep kq hG,fun k hk=>(h7 k hk).imp id (fun h=>Nat.le_trans hn.size h),fun k hk=>Nat.lt_of_lt_of_le (h8 k hk) kq.size,((hn.mono (F':=fun k=>k=R\/GM k) (fun _ _ h => .inl h)).tr h9 (fun _ h => .inl h)).tr kq (fun k hk => .inr (hk ▸ hb1))⟩
 rcases h3 b o t e with h | h | h
 ·have:=hx.gl b h;omega
 ·exact hG b h hb
 ·omega
theorem ntakeIdle_rt (R:Nat) (n:Nd) (ld:Value) (GL GM:Nat->Prop) (b:Nat) (w:World) (h:NB w R n n.c ld (.pointer none)) (hl1:n.has=true->LoadAt w ld n.f n.l GL/\Fr n.f n.l) (hl0:n.has=false->ld = .pointer none) (hRL:¬GL R) (hcx:CxN w R GL GM) (hp:n.ph=1) (ho:okFa n.fa=true) (hb:b<=1) (hB:Both w) :
    Calls Tryz.prog 65 #[.pointer (some ⟨R,0,none⟩),.int .u8 (b:Nat)] w (RT w R (n.step b).1 (n.step b).2 ld GL GM):=by
 have CX:=Lib.hid hcx
 have hRw:=hcx.lt
 obtain⟨c0,c1,c2,c3,c4,c5,c6,c7,c8,c9⟩:=Blk.c10 (h)
 obtain⟨f0,f1,f2,f3,f4,f5,f6,f7,f8,f9⟩:=Blk.f10 (h)
 have hws:∀ sd:Bool,NB (w.setCell ⟨R,8,none⟩ (.bool sd)) R { n with snd:=sd } n.c ld (.pointer none):=fun sd=>Blk.set h 8 (.bool sd)
 have st:∀ sd:Bool,∃ w0,w0=(w.setCell ⟨R,8,none⟩ (.bool sd)).alloc (.cells #[.int .i64 0,.int .i64 0,.int .i64 0,.int .u32 0,.bool false,.bool false,.bool false,.bool false,.bool false,.int .u8 0,.int .u8 0,.int .u32 0,.slice none 0 0] 36)/\NB w0 R { n with snd:=sd } n.c ld (.pointer none)/\Kp (fun k=>k=R) w w0/\w0.heap.size=w.heap.size+1/\Blk w0 w.heap.size #[.int .i64 0,.int .i64 0,.int .i64 0,.int .u32 0,.bool false,.bool false,.bool false,.bool false,.bool false,.int .u8 0,.int .u8 0,.int .u32 0,.slice none 0 0] 36/\Both w0:=fun sd=>by
  have sz:(w.setCell ⟨R,8,none⟩ (.bool sd)).heap.size=w.heap.size:=by simp[World.setCell]
  refine⟨_,rfl,NB.nb (hws sd) (Nb.rfl.al _),(Kp.r1 _ _).rn (Nb.rfl.al _),by rw[World.size_alloc,sz],?_,(h.both hB (Kp.r1 8 (.bool sd))).below (Nb.rfl.al _)⟩
  have:=Blk.new (w.setCell ⟨R,8,none⟩ (.bool sd)) #[.int .i64 0,.int .i64 0,.int .i64 0,.int .u32 0,.bool false,.bool false,.bool false,.bool false,.bool false,.int .u8 0,.int .u8 0,.int .u32 0,.slice none 0 0] 36
  rwa[sz] at this
 rw[step1 hp]
 by_cases hh:n.has=true
 ·rw[if_pos hh]
  obtain⟨hla,hfr⟩:=hl1 hh
  obtain⟨w0,hw0,q0,k0,s0,x0,b0⟩:=st true
  obtain⟨⟨rn,⟨ek,ee,⟨eK,eI,eX,eR,eB,eE,eS,eD,eV,eA⟩,el⟩⟩,hr⟩:∃ r:Nd × Ev,r=Nd.send { n with x:=[],snd:=true,ph:=2,c:=0 } b:=⟨_,rfl⟩
  have HBR:=Lib.hid (nbeginRow_any R { n with snd:=true } n.c ld (.pointer none) 2 w0 q0 b0)
  have HTS:=Lib.hid (fun w' rw' G (k2:Kp (fun b=>b=R) w0 w') (q:NB w' R { n with x:=[],snd:=true,ph:=2,c:=0 } 0 ld rw') (m:MachAt w' rw' n.kn [] G) (g:∀ k,G k->w0.heap.size<=k) =>
   (show Calls Tryz.prog 66 #[.pointer (some ⟨R,0,none⟩),.int .u8 (b:Nat)] w' (RT w0 R rn ⟨ek,ee,⟨eK,eI,eX,eR,eB,eE,eS,eD,eV,eA⟩,el⟩ ld GL GM) from by
    have hgl:∀ k,GL k->k < w0.heap.size:=fun k hk=>by have:=hcx.gl k hk;omega
    have cx':CxN w' R GL G:=⟨NB.lt q,fun k hk=>Nat.lt_of_lt_of_le (hgl k hk) k2.size,mach_lt m⟩
    have z:=ntakeSend_any R { n with x:=[],snd:=true,ph:=2,c:=0 } ld rw' GL G b w' q (hla.keep (k0.rr k2) (fun k hk e=>hRL (e ▸ hk))) hRL (fun k hk hg=>by
     have h1:=hgl k hk
     have h2:=g k hg
     omega) m (fun hg=>by
     have h2:=g R hg
     omega) rfl hh hfr (by have:=hfr.raw_len;show 0 < _;omega) ho hb (by simp) (q0.both b0 k2) cx'
    rw[<- hr] at z
    exact z.mono (fun e w2 r=>RT.from2 (GM:=GM) k2 g r)))
  rw[<- hr]
  obtain⟨L,rfl⟩:=hla.ptr
  have HW0:=Lib.hid hw0
  have X0:=Lib.hid x0
  have K0:=Lib.hid k0
  have hs0:=s0
  clear h hl1 hl0 hRL hp ho hB hla hfr hh hr hw0 q0 k0 x0 b0 st hws s0 hcx hb
  go_enter Tryz.func65,Tryz.ntmps65
  go_wp2_with fail
  rw[<- HW0.out]
  refine HBR.out.mono ?_
  rintro e w1 ⟨rfl,rw1,G1,q1,m1,g1,k1⟩
  have HT1:=Lib.hid (HTS.out w1 rw1 G1 k1 q1 m1 g1)
  clear q1 m1 g1 k1 HTS HBR
  go_wp2_with fail
  refine HT1.out.mono ?_
  intro e w2 q
  have X2:=Lib.hid (X0.out.keep q.kp (fun hg=>by
   rcases hg with h | h
   ·omega
   ·have:=CX.out.gm _ h;omega))
  obtain⟨a2,cp2,rfl,q⟩:=q.is
  have Z:=Lib.hid q
  clear q
  simp only[evV,staV]
  have hb:=Blk.row (X2.out) (staC (⟨ek,ee,⟨eK,eI,eX,eR,eB,eE,eS,eD,eV,eA⟩,el⟩:Sta) (.slice a2 el.length cp2))
  have kq:=Kp.row w2 (w.heap.size) (staC (⟨ek,ee,⟨eK,eI,eX,eR,eB,eE,eS,eD,eV,eA⟩,el⟩:Sta) (.slice a2 el.length cp2))
  have HXX:=Lib.hid (X2.out)
  have HBQ:=Lib.hid hb
  have KQ:=Lib.hid kq
  clear hb kq
  go_wp2_with (refine wpList_store_row (by rfl) _ _ _ (by rfl) _ _ (by rfl) (by rfl) _ _ HXX.out (by kernel_rfl) (by rfl) (by simp[Value.oneCell']) ?_)
  change bodyPost _ _ _ _ _ (World.setRow w2 (w.heap.size) (staC (⟨ek,ee,⟨eK,eI,eX,eR,eB,eE,eS,eD,eV,eA⟩,el⟩:Sta) (.slice a2 el.length cp2)))
  have hb:=HBQ.out
  have kq:=KQ.out
  generalize World.setRow w2 (w.heap.size) (staC (⟨ek,ee,⟨eK,eI,eX,eR,eB,eE,eS,eD,eV,eA⟩,el⟩:Sta) (.slice a2 el.length cp2))=WW at hb kq HBQ KQ ⊢
  obtain⟨_,⟨e0,e1,e2,e3,e4,e5,e6,e7,e8,e9,e10,e11,e12⟩,_⟩:=Blk.h13 hb
  exact bodyPost_ret (v:=staV (⟨ek,ee,⟨eK,eI,eX,eR,eB,eE,eS,eD,eV,eA⟩,el⟩:Sta) (.slice a2 el.length cp2)) (by simp[results,Tryz.results65,go_sem,staV,moreS,noF,e0,e1,e2,e3,e4,e5,e6,e7,e8,e9,e10,e11,e12]) rfl (RT.mk2 K0.out Z.out kq CX.out (Nat.le_refl _) (by omega))
 ·rw[if_neg hh]
  have hh:n.has=false:=by simpa using hh
  have hn:=hl0 hh
  subst hn
  by_cases hb0:b=0
  ·subst hb0
   rw[if_pos rfl]
   obtain⟨w0,hw0,q0,k0,s0,x0,b0⟩:=st false
   have HH:=Lib.hid (nhear_any R { n with snd:=false } n.c (.pointer none) (.pointer none) GL GM w0 q0 ho b0 (by show _=if n.has then _ else _;rw[hh];rfl) (hcx.up k0.size))
   have HW0:=Lib.hid hw0
   have X0:=Lib.hid x0
   have K0:=Lib.hid k0
   have hs0:=s0
   clear h hl1 hl0 hRL hp ho hB hh hw0 q0 k0 x0 b0 st hws s0 hcx hb
   go_enter Tryz.func65,Tryz.ntmps65
   go_wp2_with fail
   rw[<- HW0.out]
   refine HH.out.mono ?_
   intro e w2 q
   have X2:=Lib.hid (X0.out.keep q.kp (fun hg=>by
    rcases hg with h | h
    ·omega
    ·have:=CX.out.gm _ h;omega))
   obtain⟨a2,cp2,rfl,q⟩:=q.is
   have Z:=Lib.hid q
   clear q
   have hb:=Blk.row (X2.out) (staC moreS (.slice a2 0 cp2))
   have kq:=Kp.row w2 (w.heap.size) (staC moreS (.slice a2 0 cp2))
   have HXX:=Lib.hid (X2.out)
   have HBQ:=Lib.hid hb
   have KQ:=Lib.hid kq
   clear hb kq
   go_wp2_with (refine wpList_store_row (by rfl) _ _ _ (by rfl) _ _ (by rfl) (by rfl) _ _ HXX.out (by kernel_rfl) (by rfl) (by simp[Value.oneCell']) ?_)
   change bodyPost _ _ _ _ _ (World.setRow w2 (w.heap.size) (staC moreS (.slice a2 0 cp2)))
   have hb:=HBQ.out
   have kq:=KQ.out
   generalize World.setRow w2 (w.heap.size) (staC moreS (.slice a2 0 cp2))=WW at hb kq HBQ KQ ⊢
   obtain⟨_,⟨e0,e1,e2,e3,e4,e5,e6,e7,e8,e9,e10,e11,e12⟩,_⟩:=Blk.h13 hb
   exact bodyPost_ret (v:=staV moreS (.slice a2 0 cp2)) (by simp[results,Tryz.results65,go_sem,staV,moreS,noF,e0,e1,e2,e3,e4,e5,e6,e7,e8,e9,e10,e11,e12]) rfl (RT.mk2 K0.out Z.out kq CX.out (Nat.le_refl _) (by omega))
  ·have db:((b:Int)==0)=false:=by rw[beq_eq_false_iff_ne];omega
   rw[if_neg hb0]
   have HF:=Lib.hid (fun w' q k=>NT.rt (GL:=GL) (GM:=GM) (ev:=noEv) (ld0 := .pointer none) (e := .returned noEvV) (w':=w') Kp.rfl (⟨rfl,q,k⟩:NT w R { n with snd:=false } n.c (.pointer none) (.pointer none) noEvV _ w') rfl (by unfold Nd.count;rw[if_neg (by show ¬n.ph=3;omega)]) (by show _=if n.has then _ else _;rw[hh];rfl) ⟨by show n.ph≠2;omega,by show n.ph≠3;omega⟩)
   have Q1:=Lib.hid (hws false)
   clear h hl1 hl0 hRL hp ho hB hh hb0 hcx st hws hb
   go_enter Tryz.func65,Tryz.ntmps65
   go_wp2
   have hb:=Blk.new (w.setCell ⟨R,8,none⟩ (.bool false)) (staC moreS (.slice none 0 0)) 36
   have hs:((w.setCell ⟨R,8,none⟩ (.bool false))).heap.size=w.heap.size:=by simp[World.setCell]
   rw[hs] at hb
   obtain⟨_,⟨e0,e1,e2,e3,e4,e5,e6,e7,e8,e9,e10,e11,e12⟩,_⟩:=Blk.h13 hb
   exact bodyPost_ret (v:=staV moreS (.slice none 0 0)) (by simp[results,Tryz.results65,go_sem,staV,moreS,noF]) rfl (HF.out _ (Q1.out.nb (Nb.rfl.al _)) ((Kp.r1 _ _).rn (Nb.rfl.al _)))
theorem ndriveNothing_any (R:Nat) (w:World):Calls Tryz.prog 51 #[.pointer (some ⟨R,0,none⟩)] w fun e w'=> e = .returned (.int .u8 1)/\Nb w w':=by
 go_enter Tryz.func51,Tryz.ntmps51
 go_wp2
 go_ret
 exact⟨rfl,Nb.rfl⟩
theorem ndriveOverload_any (R:Nat) (w:World):Calls Tryz.prog 56 #[.pointer (some ⟨R,0,none⟩)] w fun e w'=> e = .returned (.int .u8 0)/\Nb w w':=by
 go_enter Tryz.func56,Tryz.ntmps56
 go_wp2
 go_ret
 exact⟨rfl,Nb.rfl⟩
theorem ndriveFlag_any (R:Nat) (n:Nd) (c:Nat) (ld rw:Value) (w:World) (h:NB w R n c ld rw):Calls Tryz.prog 55 #[.pointer (some ⟨R,0,none⟩)] w fun e w'=> e = .returned (.int .u8 ((if n.pas then 1 else 0:Nat):Int))/\Nb w w':=by
 obtain⟨c0,c1,c2,c3,c4,c5,c6,c7,c8,c9⟩:=Blk.c10 (h)
 cases hq:n.pas
 all_goals rw[hq] at c9
 all_goals clear h hq
 all_goals go_enter Tryz.func55,Tryz.ntmps55
 all_goals go_wp2
 all_goals go_ret
 all_goals exact⟨rfl,Nb.rfl⟩
theorem ndriveFirst_any (R:Nat) (n:Nd) (ld rw:Value) (GL:Nat->Prop) (w:World) (h:NB w R n n.c ld rw) (hc:n.c=0) (hl1:n.has=true->LoadAt w ld n.f n.l GL/\Fr n.f n.l) (hl0:n.has=false->ld = .pointer none):Calls Tryz.prog 52 #[.pointer (some ⟨R,0,none⟩)] w fun e w'=> e = .returned (.int .u8 ((if n.has then 0 else 1:Nat):Int))/\Nb w w':=by
 obtain⟨c0,c1,c2,c3,c4,c5,c6,c7,c8,c9⟩:=Blk.c10 (h)
 cases hh:n.has with
 | true =>
   obtain⟨hla,hfr⟩:=hl1 hh
   have hD:=ndriveFrame_any R n n.c ld rw GL w h hla (by have:=hfr.len.1;omega) (by have:=hfr.len.1;have:=hfr.raw_len.2;omega)
   rw[hc,(hfr.bits 0 (by omega)).1,if_pos (by have:=hfr.raw_len;omega),hfr.sof] at hD
   have HD:=Lib.hid hD
   obtain⟨L,hL⟩:∃ L,ld = .pointer (some ⟨L,0,none⟩):=by
    obtain⟨L,_,_,_,_,h1,_⟩:=hla
    exact⟨L,h1⟩
   subst hL
   clear h hl1 hl0 hla hfr hD hh hc
   go_enter Tryz.func52,Tryz.ntmps52
   go_wp2_with fail
   refine HD.out.mono ?_
   rintro e w1 ⟨rfl,n1⟩
   go_wp2
   go_ret
   exact⟨rfl,n1⟩
 | false =>
   have hn:=hl0 hh
   subst hn
   clear h hl1 hl0 hh hc
   go_enter Tryz.func52,Tryz.ntmps52
   go_wp2
   go_ret
   exact⟨rfl,Nb.rfl⟩
theorem ndriveAnswer_any (R:Nat) (n:Nd) (c:Nat) (ld rw:Value) (GM:Nat->Prop) (w:World) (h:NB w R n c ld rw) (hm:MachAt w rw n.kn n.x GM) (hB:Both w):Calls Tryz.prog 54 #[.pointer (some ⟨R,0,none⟩)] w fun e w'=> e = .returned (.int .u8 ((if n.sta.k=1 then 0 else 1:Nat):Int))/\Nb w w':=by
 obtain⟨c0,c1,c2,c3,c4,c5,c6,c7,c8,c9⟩:=Blk.c10 (h)
 have hs:=status9_any rw n.kn n.x GM w hm hB
 have e1:staOf (scS n.kn n.x)=n.sta:=rfl
 rw[e1] at hs
 obtain⟨s,hsq⟩:∃ s,n.sta=s:=⟨_,rfl⟩
 rw[hsq] at hs ⊢
 have HS:=Lib.hid hs
 clear h hm hB hs e1 hsq
 obtain⟨sk,se,⟨K,I,X,Rr,B,E,S,Dd,V,A⟩,sl⟩:=s
 simp only[staV,AnsT] at HS
 by_cases hk:sk=1
 ·subst hk
  rw[if_pos rfl]
  go_enter Tryz.func54,Tryz.ntmps54
  go_wp2_with fail
  refine HS.out.mono ?_
  rintro e w1 ⟨⟨a,cp,rfl,_⟩,n1⟩
  go_wp2
  go_ret
  exact⟨rfl,n1.al _⟩
 ·have dk:((sk:Int)==1)=false:=by rw[beq_eq_false_iff_ne];omega
  rw[if_neg hk]
  clear hk
  go_enter Tryz.func54,Tryz.ntmps54
  go_wp2_with fail
  refine HS.out.mono ?_
  rintro e w1 ⟨⟨a,cp,rfl,_⟩,n1⟩
  go_wp2
  go_ret
  exact⟨rfl,n1.al _⟩
end Go.Proofs.YtipefblpppmabaaGreatDoor
namespace Go.Proofs.YtipefblpppmabaaGreatDoor
set_option linter.unusedVariables false
set_option linter.unusedSimpArgs false
open Go.RowKit
def tkV:Value := .agg #[Value.func (Fn.func 64) #[] #[],Value.func (Fn.func 65) #[] #[],Value.func (Fn.func 66) #[] #[],Value.func (Fn.func 67) #[] #[],Value.func (Fn.func 68) #[] #[],Value.func (Fn.func 69) #[] #[],Value.func (Fn.func 69) #[] #[],Value.func (Fn.func 70) #[] #[],Value.func (Fn.func 71) #[] #[],Value.func (Fn.func 72) #[] #[],Value.func (Fn.func 73) #[] #[],Value.func (Fn.func 74) #[] #[]]
def drV:Value := .agg #[Value.func (Fn.func 51) #[] #[],Value.func (Fn.func 52) #[] #[],Value.func (Fn.func 53) #[] #[],Value.func (Fn.func 54) #[] #[],Value.func (Fn.func 51) #[] #[],Value.func (Fn.func 55) #[] #[],Value.func (Fn.func 56) #[] #[],Value.func (Fn.func 51) #[] #[],Value.func (Fn.func 51) #[] #[],Value.func (Fn.func 51) #[] #[],Value.func (Fn.func 51) #[] #[],Value.func (Fn.func 51) #[] #[]]
theorem ntakes_any (w:World):Calls Tryz.prog 36 #[] w fun e w'=>e = .returned tkV/\Nb w w':=by
 unfold tkV
 go_enter Tryz.func36,Tryz.ntmps36
 go_wp2
 exact bodyPost_ret (v := .agg #[Value.func (Fn.func 64) #[] #[],Value.func (Fn.func 65) #[] #[],Value.func (Fn.func 66) #[] #[],Value.func (Fn.func 67) #[] #[],Value.func (Fn.func 68) #[] #[],Value.func (Fn.func 69) #[] #[],Value.func (Fn.func 69) #[] #[],Value.func (Fn.func 70) #[] #[],Value.func (Fn.func 71) #[] #[],Value.func (Fn.func 72) #[] #[],Value.func (Fn.func 73) #[] #[],Value.func (Fn.func 74) #[] #[]]) (by simp[results,Tryz.results36,go_sem]) rfl ⟨rfl,Nb.rfl.al _⟩
theorem ndrives_any (w:World):Calls Tryz.prog 34 #[] w fun e w'=>e = .returned drV/\Nb w w':=by
 unfold drV
 go_enter Tryz.func34,Tryz.ntmps34
 go_wp2
 exact bodyPost_ret (v := .agg #[Value.func (Fn.func 51) #[] #[],Value.func (Fn.func 52) #[] #[],Value.func (Fn.func 53) #[] #[],Value.func (Fn.func 54) #[] #[],Value.func (Fn.func 51) #[] #[],Value.func (Fn.func 55) #[] #[],Value.func (Fn.func 56) #[] #[],Value.func (Fn.func 51) #[] #[],Value.func (Fn.func 51) #[] #[],Value.func (Fn.func 51) #[] #[],Value.func (Fn.func 51) #[] #[],Value.func (Fn.func 51) #[] #[]]) (by simp[results,Tryz.results34,go_sem]) rfl ⟨rfl,Nb.rfl.al _⟩
theorem cf_driveAnswer:∀ args w,(callFunc 54 args).run Tryz.prog w = .ok (.enter 54 args) w:=hcf _ _ Tryz.func54 (by rfl) (by decide +kernel)
theorem cf_driveFirst:∀ args w,(callFunc 52 args).run Tryz.prog w = .ok (.enter 52 args) w:=hcf _ _ Tryz.func52 (by rfl) (by decide +kernel)
theorem cf_driveFlag:∀ args w,(callFunc 55 args).run Tryz.prog w = .ok (.enter 55 args) w:=hcf _ _ Tryz.func55 (by rfl) (by decide +kernel)
theorem cf_driveFrame:∀ args w,(callFunc 53 args).run Tryz.prog w = .ok (.enter 53 args) w:=hcf _ _ Tryz.func53 (by rfl) (by decide +kernel)
theorem cf_driveNothing:∀ args w,(callFunc 51 args).run Tryz.prog w = .ok (.enter 51 args) w:=hcf _ _ Tryz.func51 (by rfl) (by decide +kernel)
theorem cf_driveOverload:∀ args w,(callFunc 56 args).run Tryz.prog w = .ok (.enter 56 args) w:=hcf _ _ Tryz.func56 (by rfl) (by decide +kernel)
theorem cf_takeAway:∀ args w,(callFunc 73 args).run Tryz.prog w = .ok (.enter 73 args) w:=hcf _ _ Tryz.func73 (by rfl) (by decide +kernel)
theorem cf_takeDelim:∀ args w,(callFunc 70 args).run Tryz.prog w = .ok (.enter 70 args) w:=hcf _ _ Tryz.func70 (by rfl) (by decide +kernel)
theorem cf_takeFlag:∀ args w,(callFunc 69 args).run Tryz.prog w = .ok (.enter 69 args) w:=hcf _ _ Tryz.func69 (by rfl) (by decide +kernel)
theorem cf_takeIdle:∀ args w,(callFunc 65 args).run Tryz.prog w = .ok (.enter 65 args) w:=hcf _ _ Tryz.func65 (by rfl) (by decide +kernel)
theorem cf_takeJoin:∀ args w,(callFunc 64 args).run Tryz.prog w = .ok (.enter 64 args) w:=hcf _ _ Tryz.func64 (by rfl) (by decide +kernel)
theorem cf_takeLast:∀ args w,(callFunc 68 args).run Tryz.prog w = .ok (.enter 68 args) w:=hcf _ _ Tryz.func68 (by rfl) (by decide +kernel)
theorem cf_takePause:∀ args w,(callFunc 71 args).run Tryz.prog w = .ok (.enter 71 args) w:=hcf _ _ Tryz.func71 (by rfl) (by decide +kernel)
theorem cf_takeReceive:∀ args w,(callFunc 67 args).run Tryz.prog w = .ok (.enter 67 args) w:=hcf _ _ Tryz.func67 (by rfl) (by decide +kernel)
theorem cf_takeRecover:∀ args w,(callFunc 74 args).run Tryz.prog w = .ok (.enter 74 args) w:=hcf _ _ Tryz.func74 (by rfl) (by decide +kernel)
theorem cf_takeSend:∀ args w,(callFunc 66 args).run Tryz.prog w = .ok (.enter 66 args) w:=hcf _ _ Tryz.func66 (by rfl) (by decide +kernel)
theorem cf_takeSuspend:∀ args w,(callFunc 72 args).run Tryz.prog w = .ok (.enter 72 args) w:=hcf _ _ Tryz.func72 (by rfl) (by decide +kernel)
theorem nsampleG (T:Nat) (k:Int) (hix:∀ w,(Instr.index 82 tkV (.int .i64 k)).run Tryz.prog w = .ok (Value.func (Fn.func T) #[] #[]) w) (hcf:∀ args w,(callFunc T args).run Tryz.prog w = .ok (.enter T args) w) (R:Nat) (n m:Nd) (ev:Ev) (c:Nat) (ld rw ld0:Value) (GL GM:Nat->Prop) (b:Nat) (w:World) (h:NB w R n c ld rw) (hp:((n.ph:Nat):Int)=k) (hb:b<=1) (hcx:CxN w R GL GM)
    (hF:∀ w',Nb w w'->Calls Tryz.prog T #[.pointer (some ⟨R,0,none⟩),.int .u8 (b:Nat)] w' (RT w' R m ev ld0 GL GM)) :
    Calls Tryz.prog 16 #[.pointer (some ⟨R,0,none⟩),.int .u8 (b:Nat)] w fun e w'=>∃ u,e = .returned (.tuple #[u,.int .i64 0])/\RT w R m ev ld0 GL GM (.returned u) w':=by
 obtain⟨w0,hw0⟩:∃ w0,w0=w.alloc (.cells #[.int .i64 0,.int .i64 0,.int .i64 0,.int .u32 0,.bool false,.bool false,.bool false,.bool false,.bool false,.int .u8 0,.int .u8 0,.int .u32 0,.slice none 0 0] 36):=⟨_,rfl⟩
 have n0:Nb w w0:=by rw[hw0];exact Nb.rfl.al _
 have s0:w0.heap.size=w.heap.size+1:=by rw[hw0,World.size_alloc]
 have X0:=Lib.hid (show Blk w0 w.heap.size #[.int .i64 0,.int .i64 0,.int .i64 0,.int .u32 0,.bool false,.bool false,.bool false,.bool false,.bool false,.int .u8 0,.int .u8 0,.int .u32 0,.slice none 0 0] 36 by rw[hw0];exact Blk.new _ _ _)
 have N0:=Lib.hid n0
 have HW0:=Lib.hid hw0
 have S0:=Lib.hid s0
 clear n0 hw0 s0
 have CX:=Lib.hid hcx
 have hRw:=NB.lt h
 have H:=Lib.hid (h.nb N0.out)
 have hR0:R < w0.heap.size:=NB.lt H.out
 have HF:=Lib.hid (fun w' (k:Nb w0 w')=>(hF w' (N0.out.tr k)).mono (fun e w2 r=>RT.from k r))
 have HT:=Lib.hid ntakes_any
 have d1:decide ((1:Int) < (b:Int))=false:=decide_eq_false (by omega)
 have HP:=Lib.hid hp
 obtain⟨ek,ee,⟨eK,eI,eX,eR,eB,eE,eS,eD,eV,eA⟩,el⟩:=ev
 clear h hF hb hp hcx
 go_enter Tryz.func16,Tryz.ntmps16
 go_wp2_with fail
 rw[<- HW0.out]
 have c1:w0.cell? ⟨R,1,none⟩=some (.int .i64 (n.ph:Nat)):=Blk.cell H.out 1
 rw[HP.out] at c1
 have NBk:Hid (Nb w0 w0.drew):=Lib.hid (Nb.drewN w0 1)
 go_region_with (first
  | (go_at_call 36
     refine (HT.out _).mono ?_
     rintro e w1 ⟨rfl,n1⟩
     have NBk:=Lib.hid (NBk.out.tr n1)
     have c1:w1.cell? ⟨R,1,none⟩=some (.int .i64 (n.ph:Nat)):=Blk.cell (H.out.nb NBk.out) 1
     rw[HP.out] at c1
     clear n1)
  | (refine (HF.out _ NBk.out).mono ?_
     intro e w2 q
     have X2:=Lib.hid (X0.out.keep q.kp (fun hg=>by
      rcases hg with h | h
      ·omega
      ·have:=CX.out.gm _ h;omega))
     obtain⟨a2,cp2,rfl,q⟩:=q.is
     have Z:=Lib.hid q
     simp only[evV,staV]
     obtain⟨⟨y0,y1,y2,y3,y4,y5,y6,y7,y8,y9,y10,y11,y12⟩,⟨x0,x1,x2,x3,x4,x5,x6,x7,x8,x9,x10,x11,x12⟩,hlb⟩:=Blk.h13 (X2.out)
     clear q))
 all_goals
  have hb:=p13_blk (⟨ek,ee,⟨eK,eI,eX,eR,eB,eE,eS,eD,eV,eA⟩,el⟩:Sta) (.slice a2 el.length cp2) (X2.out)
  have kq:=p13_kp w2 (w.heap.size) (staC (⟨ek,ee,⟨eK,eI,eX,eR,eB,eE,eS,eD,eV,eA⟩,el⟩:Sta) (.slice a2 el.length cp2))
  go_wp2
  change bodyPost _ _ _ _ _ (p13 w2 (w.heap.size) (staC (⟨ek,ee,⟨eK,eI,eX,eR,eB,eE,eS,eD,eV,eA⟩,el⟩:Sta) (.slice a2 el.length cp2)))
  generalize p13 w2 (w.heap.size) (staC (⟨ek,ee,⟨eK,eI,eX,eR,eB,eE,eS,eD,eV,eA⟩,el⟩:Sta) (.slice a2 el.length cp2))=WW at hb kq ⊢
  obtain⟨_,⟨e0,e1,e2,e3,e4,e5,e6,e7,e8,e9,e10,e11,e12⟩,_⟩:=Blk.h13 hb
  exact bodyPost_ret (v := .tuple #[staV (⟨ek,ee,⟨eK,eI,eX,eR,eB,eE,eS,eD,eV,eA⟩,el⟩:Sta) (.slice a2 el.length cp2),.int .i64 0]) (by simp[results,Tryz.results16,go_sem,staV,moreS,noF,e0,e1,e2,e3,e4,e5,e6,e7,e8,e9,e10,e11,e12]) rfl ⟨_,rfl,RT.mk N0.out Z.out kq CX.out (Nat.le_refl _) (by have:=S0.out;omega)⟩
theorem noutG (T:Nat) (k:Int) (hix:∀ w,(Instr.index 77 drV (.int .i64 k)).run Tryz.prog w = .ok (Value.func (Fn.func T) #[] #[]) w) (hcf:∀ args w,(callFunc T args).run Tryz.prog w = .ok (.enter T args) w) (R:Nat) (n:Nd) (c y:Nat) (ld rw:Value) (w:World) (h:NB w R n c ld rw) (hp:((n.ph:Nat):Int)=k)
    (hF:∀ w',Nb w w'->Calls Tryz.prog T #[.pointer (some ⟨R,0,none⟩)] w' fun e w''=>e = .returned (.int .u8 (y:Nat))/\Nb w' w'') :
    Calls Tryz.prog 14 #[.pointer (some ⟨R,0,none⟩)] w fun e w'=>e = .returned (.int .u8 (y:Nat))/\Nb w w':=by
 have hRw:=NB.lt h
 have H:=Lib.hid h
 have HF:=Lib.hid hF
 have HT:=Lib.hid ndrives_any
 have HP:=Lib.hid hp
 clear h hF hp
 go_enter Tryz.func14,Tryz.ntmps14
 go_wp2_with fail
 have c1:w.cell? ⟨R,1,none⟩=some (.int .i64 (n.ph:Nat)):=Blk.cell H.out 1
 rw[HP.out] at c1
 have NBk:Hid (Nb w w.drew):=Lib.hid (Nb.drewN w 1)
 go_region_with (first
  | (go_at_call 34
     refine (HT.out _).mono ?_
     rintro e w1 ⟨rfl,n1⟩
     have NBk:=Lib.hid (NBk.out.tr n1)
     have c1:w1.cell? ⟨R,1,none⟩=some (.int .i64 (n.ph:Nat)):=Blk.cell (H.out.nb NBk.out) 1
     rw[HP.out] at c1
     clear n1)
  | (refine (HF.out _ NBk.out).mono ?_
     rintro e w2 ⟨rfl,n2⟩
     have NBk:=Lib.hid (NBk.out.tr n2)
     clear n2))
 all_goals
  go_wp2
  go_ret
  exact⟨rfl,NBk.out⟩
theorem index_tk0 (w:World):(Instr.index 82 tkV (.int .i64 0)).run Tryz.prog w = .ok (Value.func (Fn.func 64) #[] #[]) w:=by kernel_rfl
theorem nsample0 (R:Nat) (n m:Nd) (ev:Ev) (c:Nat) (ld rw ld0:Value) (GL GM:Nat->Prop) (b:Nat) (w:World) (h:NB w R n c ld rw) (hp:n.ph=0) (hb:b<=1) (hcx:CxN w R GL GM)
    (hF:∀ w',Nb w w'->Calls Tryz.prog 64 #[.pointer (some ⟨R,0,none⟩),.int .u8 (b:Nat)] w' (RT w' R m ev ld0 GL GM)) :
    Calls Tryz.prog 16 #[.pointer (some ⟨R,0,none⟩),.int .u8 (b:Nat)] w fun e w'=>∃ u,e = .returned (.tuple #[u,.int .i64 0])/\RT w R m ev ld0 GL GM (.returned u) w' :=
 nsampleG 64 0 index_tk0 cf_takeJoin R n m ev c ld rw ld0 GL GM b w h (by rw[hp];rfl) hb hcx hF
theorem index_tk1 (w:World):(Instr.index 82 tkV (.int .i64 1)).run Tryz.prog w = .ok (Value.func (Fn.func 65) #[] #[]) w:=by kernel_rfl
theorem nsample1 (R:Nat) (n m:Nd) (ev:Ev) (c:Nat) (ld rw ld0:Value) (GL GM:Nat->Prop) (b:Nat) (w:World) (h:NB w R n c ld rw) (hp:n.ph=1) (hb:b<=1) (hcx:CxN w R GL GM)
    (hF:∀ w',Nb w w'->Calls Tryz.prog 65 #[.pointer (some ⟨R,0,none⟩),.int .u8 (b:Nat)] w' (RT w' R m ev ld0 GL GM)) :
    Calls Tryz.prog 16 #[.pointer (some ⟨R,0,none⟩),.int .u8 (b:Nat)] w fun e w'=>∃ u,e = .returned (.tuple #[u,.int .i64 0])/\RT w R m ev ld0 GL GM (.returned u) w' :=
 nsampleG 65 1 index_tk1 cf_takeIdle R n m ev c ld rw ld0 GL GM b w h (by rw[hp];rfl) hb hcx hF
theorem index_tk2 (w:World):(Instr.index 82 tkV (.int .i64 2)).run Tryz.prog w = .ok (Value.func (Fn.func 66) #[] #[]) w:=by kernel_rfl
theorem nsample2 (R:Nat) (n m:Nd) (ev:Ev) (c:Nat) (ld rw ld0:Value) (GL GM:Nat->Prop) (b:Nat) (w:World) (h:NB w R n c ld rw) (hp:n.ph=2) (hb:b<=1) (hcx:CxN w R GL GM)
    (hF:∀ w',Nb w w'->Calls Tryz.prog 66 #[.pointer (some ⟨R,0,none⟩),.int .u8 (b:Nat)] w' (RT w' R m ev ld0 GL GM)) :
    Calls Tryz.prog 16 #[.pointer (some ⟨R,0,none⟩),.int .u8 (b:Nat)] w fun e w'=>∃ u,e = .returned (.tuple #[u,.int .i64 0])/\RT w R m ev ld0 GL GM (.returned u) w' :=
 nsampleG 66 2 index_tk2 cf_takeSend R n m ev c ld rw ld0 GL GM b w h (by rw[hp];rfl) hb hcx hF
theorem index_tk3 (w:World):(Instr.index 82 tkV (.int .i64 3)).run Tryz.prog w = .ok (Value.func (Fn.func 67) #[] #[]) w:=by kernel_rfl
theorem nsample3 (R:Nat) (n m:Nd) (ev:Ev) (c:Nat) (ld rw ld0:Value) (GL GM:Nat->Prop) (b:Nat) (w:World) (h:NB w R n c ld rw) (hp:n.ph=3) (hb:b<=1) (hcx:CxN w R GL GM)
    (hF:∀ w',Nb w w'->Calls Tryz.prog 67 #[.pointer (some ⟨R,0,none⟩),.int .u8 (b:Nat)] w' (RT w' R m ev ld0 GL GM)) :
    Calls Tryz.prog 16 #[.pointer (some ⟨R,0,none⟩),.int .u8 (b:Nat)] w fun e w'=>∃ u,e = .returned (.tuple #[u,.int .i64 0])/\RT w R m ev ld0 GL GM (.returned u) w' :=
 nsampleG 67 3 index_tk3 cf_takeReceive R n m ev c ld rw ld0 GL GM b w h (by rw[hp];rfl) hb hcx hF
theorem index_tk4 (w:World):(Instr.index 82 tkV (.int .i64 4)).run Tryz.prog w = .ok (Value.func (Fn.func 68) #[] #[]) w:=by kernel_rfl
theorem nsample4 (R:Nat) (n m:Nd) (ev:Ev) (c:Nat) (ld rw ld0:Value) (GL GM:Nat->Prop) (b:Nat) (w:World) (h:NB w R n c ld rw) (hp:n.ph=4) (hb:b<=1) (hcx:CxN w R GL GM)
    (hF:∀ w',Nb w w'->Calls Tryz.prog 68 #[.pointer (some ⟨R,0,none⟩),.int .u8 (b:Nat)] w' (RT w' R m ev ld0 GL GM)) :
    Calls Tryz.prog 16 #[.pointer (some ⟨R,0,none⟩),.int .u8 (b:Nat)] w fun e w'=>∃ u,e = .returned (.tuple #[u,.int .i64 0])/\RT w R m ev ld0 GL GM (.returned u) w' :=
 nsampleG 68 4 index_tk4 cf_takeLast R n m ev c ld rw ld0 GL GM b w h (by rw[hp];rfl) hb hcx hF
theorem index_tk5 (w:World):(Instr.index 82 tkV (.int .i64 5)).run Tryz.prog w = .ok (Value.func (Fn.func 69) #[] #[]) w:=by kernel_rfl
theorem nsample5 (R:Nat) (n m:Nd) (ev:Ev) (c:Nat) (ld rw ld0:Value) (GL GM:Nat->Prop) (b:Nat) (w:World) (h:NB w R n c ld rw) (hp:n.ph=5) (hb:b<=1) (hcx:CxN w R GL GM)
    (hF:∀ w',Nb w w'->Calls Tryz.prog 69 #[.pointer (some ⟨R,0,none⟩),.int .u8 (b:Nat)] w' (RT w' R m ev ld0 GL GM)) :
    Calls Tryz.prog 16 #[.pointer (some ⟨R,0,none⟩),.int .u8 (b:Nat)] w fun e w'=>∃ u,e = .returned (.tuple #[u,.int .i64 0])/\RT w R m ev ld0 GL GM (.returned u) w' :=
 nsampleG 69 5 index_tk5 cf_takeFlag R n m ev c ld rw ld0 GL GM b w h (by rw[hp];rfl) hb hcx hF
theorem index_tk6 (w:World):(Instr.index 82 tkV (.int .i64 6)).run Tryz.prog w = .ok (Value.func (Fn.func 69) #[] #[]) w:=by kernel_rfl
theorem nsample6 (R:Nat) (n m:Nd) (ev:Ev) (c:Nat) (ld rw ld0:Value) (GL GM:Nat->Prop) (b:Nat) (w:World) (h:NB w R n c ld rw) (hp:n.ph=6) (hb:b<=1) (hcx:CxN w R GL GM)
    (hF:∀ w',Nb w w'->Calls Tryz.prog 69 #[.pointer (some ⟨R,0,none⟩),.int .u8 (b:Nat)] w' (RT w' R m ev ld0 GL GM)) :
    Calls Tryz.prog 16 #[.pointer (some ⟨R,0,none⟩),.int .u8 (b:Nat)] w fun e w'=>∃ u,e = .returned (.tuple #[u,.int .i64 0])/\RT w R m ev ld0 GL GM (.returned u) w' :=
 nsampleG 69 6 index_tk6 cf_takeFlag R n m ev c ld rw ld0 GL GM b w h (by rw[hp];rfl) hb hcx hF
theorem index_tk7 (w:World):(Instr.index 82 tkV (.int .i64 7)).run Tryz.prog w = .ok (Value.func (Fn.func 70) #[] #[]) w:=by kernel_rfl
theorem nsample7 (R:Nat) (n m:Nd) (ev:Ev) (c:Nat) (ld rw ld0:Value) (GL GM:Nat->Prop) (b:Nat) (w:World) (h:NB w R n c ld rw) (hp:n.ph=7) (hb:b<=1) (hcx:CxN w R GL GM)
    (hF:∀ w',Nb w w'->Calls Tryz.prog 70 #[.pointer (some ⟨R,0,none⟩),.int .u8 (b:Nat)] w' (RT w' R m ev ld0 GL GM)) :
    Calls Tryz.prog 16 #[.pointer (some ⟨R,0,none⟩),.int .u8 (b:Nat)] w fun e w'=>∃ u,e = .returned (.tuple #[u,.int .i64 0])/\RT w R m ev ld0 GL GM (.returned u) w' :=
 nsampleG 70 7 index_tk7 cf_takeDelim R n m ev c ld rw ld0 GL GM b w h (by rw[hp];rfl) hb hcx hF
theorem index_tk8 (w:World):(Instr.index 82 tkV (.int .i64 8)).run Tryz.prog w = .ok (Value.func (Fn.func 71) #[] #[]) w:=by kernel_rfl
theorem nsample8 (R:Nat) (n m:Nd) (ev:Ev) (c:Nat) (ld rw ld0:Value) (GL GM:Nat->Prop) (b:Nat) (w:World) (h:NB w R n c ld rw) (hp:n.ph=8) (hb:b<=1) (hcx:CxN w R GL GM)
    (hF:∀ w',Nb w w'->Calls Tryz.prog 71 #[.pointer (some ⟨R,0,none⟩),.int .u8 (b:Nat)] w' (RT w' R m ev ld0 GL GM)) :
    Calls Tryz.prog 16 #[.pointer (some ⟨R,0,none⟩),.int .u8 (b:Nat)] w fun e w'=>∃ u,e = .returned (.tuple #[u,.int .i64 0])/\RT w R m ev ld0 GL GM (.returned u) w' :=
 nsampleG 71 8 index_tk8 cf_takePause R n m ev c ld rw ld0 GL GM b w h (by rw[hp];rfl) hb hcx hF
theorem index_tk9 (w:World):(Instr.index 82 tkV (.int .i64 9)).run Tryz.prog w = .ok (Value.func (Fn.func 72) #[] #[]) w:=by kernel_rfl
theorem nsample9 (R:Nat) (n m:Nd) (ev:Ev) (c:Nat) (ld rw ld0:Value) (GL GM:Nat->Prop) (b:Nat) (w:World) (h:NB w R n c ld rw) (hp:n.ph=9) (hb:b<=1) (hcx:CxN w R GL GM)
    (hF:∀ w',Nb w w'->Calls Tryz.prog 72 #[.pointer (some ⟨R,0,none⟩),.int .u8 (b:Nat)] w' (RT w' R m ev ld0 GL GM)) :
    Calls Tryz.prog 16 #[.pointer (some ⟨R,0,none⟩),.int .u8 (b:Nat)] w fun e w'=>∃ u,e = .returned (.tuple #[u,.int .i64 0])/\RT w R m ev ld0 GL GM (.returned u) w' :=
 nsampleG 72 9 index_tk9 cf_takeSuspend R n m ev c ld rw ld0 GL GM b w h (by rw[hp];rfl) hb hcx hF
theorem index_tk10 (w:World):(Instr.index 82 tkV (.int .i64 10)).run Tryz.prog w = .ok (Value.func (Fn.func 73) #[] #[]) w:=by kernel_rfl
theorem nsample10 (R:Nat) (n m:Nd) (ev:Ev) (c:Nat) (ld rw ld0:Value) (GL GM:Nat->Prop) (b:Nat) (w:World) (h:NB w R n c ld rw) (hp:n.ph=10) (hb:b<=1) (hcx:CxN w R GL GM)
    (hF:∀ w',Nb w w'->Calls Tryz.prog 73 #[.pointer (some ⟨R,0,none⟩),.int .u8 (b:Nat)] w' (RT w' R m ev ld0 GL GM)) :
    Calls Tryz.prog 16 #[.pointer (some ⟨R,0,none⟩),.int .u8 (b:Nat)] w fun e w'=>∃ u,e = .returned (.tuple #[u,.int .i64 0])/\RT w R m ev ld0 GL GM (.returned u) w' :=
 nsampleG 73 10 index_tk10 cf_takeAway R n m ev c ld rw ld0 GL GM b w h (by rw[hp];rfl) hb hcx hF
theorem index_tk11 (w:World):(Instr.index 82 tkV (.int .i64 11)).run Tryz.prog w = .ok (Value.func (Fn.func 74) #[] #[]) w:=by kernel_rfl
theorem nsample11 (R:Nat) (n m:Nd) (ev:Ev) (c:Nat) (ld rw ld0:Value) (GL GM:Nat->Prop) (b:Nat) (w:World) (h:NB w R n c ld rw) (hp:n.ph=11) (hb:b<=1) (hcx:CxN w R GL GM)
    (hF:∀ w',Nb w w'->Calls Tryz.prog 74 #[.pointer (some ⟨R,0,none⟩),.int .u8 (b:Nat)] w' (RT w' R m ev ld0 GL GM)) :
    Calls Tryz.prog 16 #[.pointer (some ⟨R,0,none⟩),.int .u8 (b:Nat)] w fun e w'=>∃ u,e = .returned (.tuple #[u,.int .i64 0])/\RT w R m ev ld0 GL GM (.returned u) w' :=
 nsampleG 74 11 index_tk11 cf_takeRecover R n m ev c ld rw ld0 GL GM b w h (by rw[hp];rfl) hb hcx hF
theorem index_dr0 (w:World):(Instr.index 77 drV (.int .i64 0)).run Tryz.prog w = .ok (Value.func (Fn.func 51) #[] #[]) w:=by kernel_rfl
theorem nout0 (R:Nat) (n:Nd) (c y:Nat) (ld rw:Value) (w:World) (h:NB w R n c ld rw) (hp:n.ph=0)
    (hF:∀ w',Nb w w'->Calls Tryz.prog 51 #[.pointer (some ⟨R,0,none⟩)] w' fun e w''=>e = .returned (.int .u8 (y:Nat))/\Nb w' w'') :
    Calls Tryz.prog 14 #[.pointer (some ⟨R,0,none⟩)] w fun e w'=>e = .returned (.int .u8 (y:Nat))/\Nb w w' :=
 noutG 51 0 index_dr0 cf_driveNothing R n c y ld rw w h (by rw[hp];rfl) hF
theorem index_dr1 (w:World):(Instr.index 77 drV (.int .i64 1)).run Tryz.prog w = .ok (Value.func (Fn.func 52) #[] #[]) w:=by kernel_rfl
theorem nout1 (R:Nat) (n:Nd) (c y:Nat) (ld rw:Value) (w:World) (h:NB w R n c ld rw) (hp:n.ph=1)
    (hF:∀ w',Nb w w'->Calls Tryz.prog 52 #[.pointer (some ⟨R,0,none⟩)] w' fun e w''=>e = .returned (.int .u8 (y:Nat))/\Nb w' w'') :
    Calls Tryz.prog 14 #[.pointer (some ⟨R,0,none⟩)] w fun e w'=>e = .returned (.int .u8 (y:Nat))/\Nb w w' :=
 noutG 52 1 index_dr1 cf_driveFirst R n c y ld rw w h (by rw[hp];rfl) hF
theorem index_dr2 (w:World):(Instr.index 77 drV (.int .i64 2)).run Tryz.prog w = .ok (Value.func (Fn.func 53) #[] #[]) w:=by kernel_rfl
theorem nout2 (R:Nat) (n:Nd) (c y:Nat) (ld rw:Value) (w:World) (h:NB w R n c ld rw) (hp:n.ph=2)
    (hF:∀ w',Nb w w'->Calls Tryz.prog 53 #[.pointer (some ⟨R,0,none⟩)] w' fun e w''=>e = .returned (.int .u8 (y:Nat))/\Nb w' w'') :
    Calls Tryz.prog 14 #[.pointer (some ⟨R,0,none⟩)] w fun e w'=>e = .returned (.int .u8 (y:Nat))/\Nb w w' :=
 noutG 53 2 index_dr2 cf_driveFrame R n c y ld rw w h (by rw[hp];rfl) hF
theorem index_dr3 (w:World):(Instr.index 77 drV (.int .i64 3)).run Tryz.prog w = .ok (Value.func (Fn.func 54) #[] #[]) w:=by kernel_rfl
theorem nout3 (R:Nat) (n:Nd) (c y:Nat) (ld rw:Value) (w:World) (h:NB w R n c ld rw) (hp:n.ph=3)
    (hF:∀ w',Nb w w'->Calls Tryz.prog 54 #[.pointer (some ⟨R,0,none⟩)] w' fun e w''=>e = .returned (.int .u8 (y:Nat))/\Nb w' w'') :
    Calls Tryz.prog 14 #[.pointer (some ⟨R,0,none⟩)] w fun e w'=>e = .returned (.int .u8 (y:Nat))/\Nb w w' :=
 noutG 54 3 index_dr3 cf_driveAnswer R n c y ld rw w h (by rw[hp];rfl) hF
theorem index_dr4 (w:World):(Instr.index 77 drV (.int .i64 4)).run Tryz.prog w = .ok (Value.func (Fn.func 51) #[] #[]) w:=by kernel_rfl
theorem nout4 (R:Nat) (n:Nd) (c y:Nat) (ld rw:Value) (w:World) (h:NB w R n c ld rw) (hp:n.ph=4)
    (hF:∀ w',Nb w w'->Calls Tryz.prog 51 #[.pointer (some ⟨R,0,none⟩)] w' fun e w''=>e = .returned (.int .u8 (y:Nat))/\Nb w' w'') :
    Calls Tryz.prog 14 #[.pointer (some ⟨R,0,none⟩)] w fun e w'=>e = .returned (.int .u8 (y:Nat))/\Nb w w' :=
 noutG 51 4 index_dr4 cf_driveNothing R n c y ld rw w h (by rw[hp];rfl) hF
theorem index_dr5 (w:World):(Instr.index 77 drV (.int .i64 5)).run Tryz.prog w = .ok (Value.func (Fn.func 55) #[] #[]) w:=by kernel_rfl
theorem nout5 (R:Nat) (n:Nd) (c y:Nat) (ld rw:Value) (w:World) (h:NB w R n c ld rw) (hp:n.ph=5)
    (hF:∀ w',Nb w w'->Calls Tryz.prog 55 #[.pointer (some ⟨R,0,none⟩)] w' fun e w''=>e = .returned (.int .u8 (y:Nat))/\Nb w' w'') :
    Calls Tryz.prog 14 #[.pointer (some ⟨R,0,none⟩)] w fun e w'=>e = .returned (.int .u8 (y:Nat))/\Nb w w' :=
 noutG 55 5 index_dr5 cf_driveFlag R n c y ld rw w h (by rw[hp];rfl) hF
theorem index_dr6 (w:World):(Instr.index 77 drV (.int .i64 6)).run Tryz.prog w = .ok (Value.func (Fn.func 56) #[] #[]) w:=by kernel_rfl
theorem nout6 (R:Nat) (n:Nd) (c y:Nat) (ld rw:Value) (w:World) (h:NB w R n c ld rw) (hp:n.ph=6)
    (hF:∀ w',Nb w w'->Calls Tryz.prog 56 #[.pointer (some ⟨R,0,none⟩)] w' fun e w''=>e = .returned (.int .u8 (y:Nat))/\Nb w' w'') :
    Calls Tryz.prog 14 #[.pointer (some ⟨R,0,none⟩)] w fun e w'=>e = .returned (.int .u8 (y:Nat))/\Nb w w' :=
 noutG 56 6 index_dr6 cf_driveOverload R n c y ld rw w h (by rw[hp];rfl) hF
theorem index_dr7 (w:World):(Instr.index 77 drV (.int .i64 7)).run Tryz.prog w = .ok (Value.func (Fn.func 51) #[] #[]) w:=by kernel_rfl
theorem nout7 (R:Nat) (n:Nd) (c y:Nat) (ld rw:Value) (w:World) (h:NB w R n c ld rw) (hp:n.ph=7)
    (hF:∀ w',Nb w w'->Calls Tryz.prog 51 #[.pointer (some ⟨R,0,none⟩)] w' fun e w''=>e = .returned (.int .u8 (y:Nat))/\Nb w' w'') :
    Calls Tryz.prog 14 #[.pointer (some ⟨R,0,none⟩)] w fun e w'=>e = .returned (.int .u8 (y:Nat))/\Nb w w' :=
 noutG 51 7 index_dr7 cf_driveNothing R n c y ld rw w h (by rw[hp];rfl) hF
theorem index_dr8 (w:World):(Instr.index 77 drV (.int .i64 8)).run Tryz.prog w = .ok (Value.func (Fn.func 51) #[] #[]) w:=by kernel_rfl
theorem nout8 (R:Nat) (n:Nd) (c y:Nat) (ld rw:Value) (w:World) (h:NB w R n c ld rw) (hp:n.ph=8)
    (hF:∀ w',Nb w w'->Calls Tryz.prog 51 #[.pointer (some ⟨R,0,none⟩)] w' fun e w''=>e = .returned (.int .u8 (y:Nat))/\Nb w' w'') :
    Calls Tryz.prog 14 #[.pointer (some ⟨R,0,none⟩)] w fun e w'=>e = .returned (.int .u8 (y:Nat))/\Nb w w' :=
 noutG 51 8 index_dr8 cf_driveNothing R n c y ld rw w h (by rw[hp];rfl) hF
theorem index_dr9 (w:World):(Instr.index 77 drV (.int .i64 9)).run Tryz.prog w = .ok (Value.func (Fn.func 51) #[] #[]) w:=by kernel_rfl
theorem nout9 (R:Nat) (n:Nd) (c y:Nat) (ld rw:Value) (w:World) (h:NB w R n c ld rw) (hp:n.ph=9)
    (hF:∀ w',Nb w w'->Calls Tryz.prog 51 #[.pointer (some ⟨R,0,none⟩)] w' fun e w''=>e = .returned (.int .u8 (y:Nat))/\Nb w' w'') :
    Calls Tryz.prog 14 #[.pointer (some ⟨R,0,none⟩)] w fun e w'=>e = .returned (.int .u8 (y:Nat))/\Nb w w' :=
 noutG 51 9 index_dr9 cf_driveNothing R n c y ld rw w h (by rw[hp];rfl) hF
theorem index_dr10 (w:World):(Instr.index 77 drV (.int .i64 10)).run Tryz.prog w = .ok (Value.func (Fn.func 51) #[] #[]) w:=by kernel_rfl
theorem nout10 (R:Nat) (n:Nd) (c y:Nat) (ld rw:Value) (w:World) (h:NB w R n c ld rw) (hp:n.ph=10)
    (hF:∀ w',Nb w w'->Calls Tryz.prog 51 #[.pointer (some ⟨R,0,none⟩)] w' fun e w''=>e = .returned (.int .u8 (y:Nat))/\Nb w' w'') :
    Calls Tryz.prog 14 #[.pointer (some ⟨R,0,none⟩)] w fun e w'=>e = .returned (.int .u8 (y:Nat))/\Nb w w' :=
 noutG 51 10 index_dr10 cf_driveNothing R n c y ld rw w h (by rw[hp];rfl) hF
theorem index_dr11 (w:World):(Instr.index 77 drV (.int .i64 11)).run Tryz.prog w = .ok (Value.func (Fn.func 51) #[] #[]) w:=by kernel_rfl
theorem nout11 (R:Nat) (n:Nd) (c y:Nat) (ld rw:Value) (w:World) (h:NB w R n c ld rw) (hp:n.ph=11)
    (hF:∀ w',Nb w w'->Calls Tryz.prog 51 #[.pointer (some ⟨R,0,none⟩)] w' fun e w''=>e = .returned (.int .u8 (y:Nat))/\Nb w' w'') :
    Calls Tryz.prog 14 #[.pointer (some ⟨R,0,none⟩)] w fun e w'=>e = .returned (.int .u8 (y:Nat))/\Nb w w' :=
 noutG 51 11 index_dr11 cf_driveNothing R n c y ld rw w h (by rw[hp];rfl) hF
end Go.Proofs.YtipefblpppmabaaGreatDoor
