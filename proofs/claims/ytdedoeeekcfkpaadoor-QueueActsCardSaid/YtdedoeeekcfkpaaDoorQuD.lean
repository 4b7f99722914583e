
/- The document's queue of layer 14: its first one asked and taken. No conditions. -/
import Derived.Test.YtdedoeeekcfkpaaDoorQuS
import Derived.Test.YtdedoeeekcfkpaaDoorGqa
import Derived.Test.YtdedoeeekcfkpaaDoorGa
set_option maxHeartbeats 1600000
set_option maxRecDepth 100000
namespace Go.Proofs.YtdedoeeekcfkpaaDoor
set_option linter.unusedVariables false
set_option linter.unusedSimpArgs false
open Go.RowKit
def cutI (a:Option Addr) (cap k:Nat):Option Addr:=if cap=k then a else a.map (·.add (k*12))
theorem cutI_none {a:Option Addr} {cap k:Nat} (h:a=none->cap=0):cutI a cap k=none->cap - k=0:=by
 cases a with
 | none =>
   intro _
   have:=h rfl
   omega
 | some a =>
   unfold cutI
   split
   ·intro h;cases h
   ·intro h;cases h
theorem elemIt:Tryd.prog.elem 30=43:=by kernel_rfl
theorem sizeIt (w:World):(sizeOf 43).run Tryd.prog w = .ok 12 w:=by kernel_rfl
theorem run_cutLI (a:Option Addr) (len cap k:Nat) (hk:k<=len) (w:World) :
    (Instr.sliceAt 30 (.slice a len cap) (some (.int .i64 (k:Int))) none none).run Tryd.prog w = .ok (.slice (cutI a cap k) (len - k) (cap - k)) w:=by
 have ht:Tryd.prog.underlying 30=some (.slice (Tryd.prog.elem 30)):=by kernel_rfl
 rw[run_sliceAt_slice _ _ _ _ _ _ ht,run_slice_l w _ a len cap ht .i64 (k:Int) (by omega) (by omega),elemIt,sizeIt]
 simp only[Result.andThen,sliced,Int.toNat_natCast,cutI]
theorem run_cutHI (a:Option Addr) (len cap k:Nat) (hk:k<=cap) (w:World) :
    (Instr.sliceAt 30 (.slice a len cap) none (some (.int .i64 (k:Int))) none).run Tryd.prog w = .ok (.slice a k cap) w:=by
 have ht:Tryd.prog.underlying 30=some (.slice (Tryd.prog.elem 30)):=by kernel_rfl
 rw[run_sliceAt_slice _ _ _ _ _ _ ht,run_slice_h w _ a len cap ht .i64 (k:Int) (by omega) (by omega),elemIt,sizeIt]
 simp only[Result.andThen,sliced,Nat.zero_mul,Nat.sub_zero,Int.toNat_natCast]
 cases a with
 | none=>simp
 | some a=>simp[Addr.add]
theorem ItsAt.cutL {w:World} {a:Option Addr} {cap:Nat} {es:List It} {P:Nat->Prop} (h:ItsAt w a cap es P) (k:Nat) (hk:k<=es.length):ItsAt w (cutI a cap k) (cap - k) (es.drop k) P:=by
 have hc:=h.hcap
 have hm:=h.hmax
 refine⟨by rw[List.length_drop];omega,by omega,fun h0 => ?_⟩
 rw[List.length_drop] at h0
 obtain⟨b,o,rfl,hp,hcl⟩:=h.hcells (by omega)
 refine⟨b,o+k*12,by unfold cutI;rw[if_neg (by omega)];simp[Addr.add],hp,fun j hj => ?_⟩
 rw[List.length_drop] at hj
 have e:(es.drop k).getD j dI=es.getD (k+j) dI:=by simp[List.getD,List.getElem?_drop]
 rw[e]
 obtain⟨a',c',h1,h2⟩:=hcl (k+j) (by omega)
 refine⟨a',c',fun i u hu => ?_,h2⟩
 rw[show o+k*12+j*12+i=o+(k+j)*12+i by omega]
 exact h1 i u hu
theorem ItsAt.head {w:World} {a:Option Addr} {cap:Nat} {es:List It} {P:Nat->Prop} (h:ItsAt w a cap es P) (k:Nat) (hk:k<=es.length):ItsAt w a cap (es.take k) P:=by
 have hc:=h.hcap
 refine⟨by rw[List.length_take];omega,h.hmax,fun h0 => ?_⟩
 rw[List.length_take] at h0 ⊢
 obtain⟨b,o,rfl,hp,hcl⟩:=h.hcells (by omega)
 refine⟨b,o,rfl,hp,fun j hj => ?_⟩
 have e:(es.take k).getD j dI=es.getD j dI:=by simp[List.getD,show j < k by omega]
 rw[e]
 exact hcl j (by omega)
def RQ (w:World) (m:Nat) (q:Qu) (P:Nat->Prop):Prop:=∃ a c,Blk w m #[.int .i64 (q.room:Nat),.int .i64 (q.last:Nat),.slice a q.its.length c] 32/\ItsAt w a c q.its P/\¬P m/\(∀ k,P k->k < w.heap.size)/\(a=none->c=0)
theorem RQ.keep {F:Nat->Prop} {w w':World} {m:Nat} {q:Qu} {P:Nat->Prop} (h:RQ w m q P) (hk:Kp F w w') (hm:¬F m) (hP:∀ k,P k->¬F k):RQ w' m q P:=by
 obtain⟨a,c,h1,h2,h3,h4,h5⟩:=h
 exact⟨a,c,h1.keep hk hm,h2.keep hk hP,h3,fun k hk'=>Nat.lt_of_lt_of_le (h4 k hk') hk.size,h5⟩
theorem RQ.nb {w w':World} {m:Nat} {q:Qu} {P:Nat->Prop} (h:RQ w m q P) (hb:Nb w w'):RQ w' m q P:=h.keep (F:=fun _=>False) (Kp.ofNb hb) (by simp) (by simp)
theorem refheadQ_any (m:Nat) (q:Qu) (P:Nat->Prop) (w:World) (h:RQ w m q P) :
    Calls Tryd.prog 18 #[.pointer (some ⟨m,0,none⟩)] w fun e w'=>∃ a c,e = .returned (.tuple #[itV q.head (.slice a q.head.l.length c),.int .i64 (q.headE:Nat)])/\DatP w' a c q.head.l P/\Nb w w':=by
 obtain⟨a,c,hb,hi,_,_,_⟩:=h
 have hcl:=hi.len
 have hb':=hb
 have hm:=hb.lt
 have r0:=hb.cell 0
 have r1:=hb.cell 1
 have r2:=hb.cell 2
 simp only[List.getElem?_toArray,List.getElem?_cons_zero,List.getElem?_cons_succ] at r0 r1 r2
 by_cases h0:q.its.length=0
 ·obtain⟨z1,z2,_⟩:=Qu.off_end q (k:=0) (by omega)
  rw[Qu.off_zero] at z1 z2
  rw[z1,z2]
  rw[h0] at r2
  have X0:=Lib.hid (Blk.new w #[.int .i64 0,.int .i64 0,.int .u32 0,.bool false,.bool false,.bool false,.bool false,.bool false,.int .u8 0,.int .u8 0,.int .u32 0,.slice none 0 0] 43)
  clear hb hb' hi r0 r1 h0 z1 z2 hcl
  go_enter Tryd.func18,Tryd.ntmps18
  go_wp2
  obtain⟨e0,e1,e2,e3,e4,e5,e6,e7,e8,e9,e10,e11⟩:=X0.out.c12
  exact bodyPost_ret (v := .tuple #[.agg #[.int .i64 0,.int .i64 0,.int .u32 0,.bool false,.bool false,.bool false,.bool false,.bool false,.int .u8 0,.int .u8 0,.int .u32 0,.slice none 0 0],.int .i64 9]) (by simp[results,Tryd.results18,go_sem,e0,e1,e2,e3,e4,e5,e6,e7,e8,e9,e10,e11]) rfl ⟨none,0,rfl,⟨Bs.nil _,fun b o t e=>by cases e⟩,Nb.rfl.al _⟩
 ·obtain⟨⟨nx,⟨Kx,Ix,Xx,Rx,Bx,Ex,Sx,Dx,Vx,Ax⟩,lx⟩,hx⟩:∃ x,q.its.getD 0 dI=x:=⟨_,rfl⟩
  obtain⟨z1,z2⟩:=Qu.off_head q (k:=0) (by omega)
  rw[Qu.off_zero,hx] at z1
  rw[Qu.off_zero] at z2
  rw[z1,z2]
  obtain⟨b,o,rfl,_⟩:=hi.hcells (by omega)
  obtain⟨pa,pc,⟨v0,v1,v2,v3,v4,v5,v6,v7,v8,v9,v10,v11⟩,hd⟩:=hi.at (j:=0) (by omega) hx
  simp only[Nat.zero_mul,Nat.add_zero] at v0 v1 v2 v3 v4 v5 v6 v7 v8 v9 v10 v11
  have dl:((q.its.length:Int)==0)=false:=by rw[beq_eq_false_iff_ne];omega
  have dp:0 < q.its.length:=by omega
  have X0:=Lib.hid (Blk.new w #[.int .i64 nx,.int .i64 Kx,.int .u32 Ix,.bool Xx,.bool Rx,.bool Bx,.bool Ex,.bool Sx,.int .u8 Dx,.int .u8 Vx,.int .u32 Ax,.slice pa lx.length pc] 43)
  have HD:=Lib.hid hd
  clear hb hb' hi r0 r1 h0 z1 z2 hx hd
  go_enter Tryd.func18,Tryd.ntmps18
  go_wp2
  obtain⟨e0,e1,e2,e3,e4,e5,e6,e7,e8,e9,e10,e11⟩:=X0.out.c12
  exact bodyPost_ret (v := .tuple #[.agg #[.int .i64 nx,.int .i64 Kx,.int .u32 Ix,.bool Xx,.bool Rx,.bool Bx,.bool Ex,.bool Sx,.int .u8 Dx,.int .u8 Vx,.int .u32 Ax,.slice pa lx.length pc],.int .i64 0]) (by simp[results,Tryd.results18,go_sem,e0,e1,e2,e3,e4,e5,e6,e7,e8,e9,e10,e11]) rfl ⟨pa,pc,rfl,HD.out.nb (Nb.rfl.al _),Nb.rfl.al _⟩
theorem Blk.rowD {w:World} {R:Nat} {cs:Array Value} {t:TypeId} (h:Blk w R cs t) (cs':Array Value):Blk (w.setRow R cs') R cs' t:=by
 unfold Blk at *
 simp[World.setRow,Array.getElem?_modify,h]
theorem Kp.rowD (w:World) (R:Nat) (cs':Array Value):Kp (fun b=>b=R) w (w.setRow R cs') :=
 ⟨setRow_os w R cs',setRow_tape w R cs',setRow_output w R cs',by rw[setRow_size];exact Nat.le_refl _,fun k _ hn=>setRow_other w R k cs' hn⟩
def TurnR (w:World) (m:Nat) (q':Qu) (P:Nat->Prop) (w':World):Prop:=∃ P',RQ w' m q' P'/\Kp (fun k=>k=m) w w'/\∀ k,P' k->P k\/w.heap.size<=k
theorem reftakeQ_any (m:Nat) (q:Qu) (P:Nat->Prop) (w:World) (h:RQ w m q P) :
    Calls Tryd.prog 13 #[.pointer (some ⟨m,0,none⟩)] w fun e w'=>∃ a c,e = .returned (.tuple #[itV q.head (.slice a q.head.l.length c),.int .i64 (q.headE:Nat)])/\DatP w' a c q.head.l P/\TurnR w m q.take P w':=by
 have hhd:=refheadQ_any m q P _ (h.nb (Nb.rfl.al (.cells #[.int .i64 0,.int .i64 0,.int .u32 0,.bool false,.bool false,.bool false,.bool false,.bool false,.int .u8 0,.int .u8 0,.int .u32 0,.slice none 0 0] 43)))
 obtain⟨a,c,hb,hi,hPm,hPl,hNo⟩:=h
 have HNo:=Lib.hid hNo
 have hcl:=hi.len
 have hm:=hb.lt
 have X0:=Lib.hid (Blk.new w #[.int .i64 0,.int .i64 0,.int .u32 0,.bool false,.bool false,.bool false,.bool false,.bool false,.int .u8 0,.int .u8 0,.int .u32 0,.slice none 0 0] 43)
 have HI:=Lib.hid hi
 have HB:=Lib.hid hb
 have HP:=Lib.hid hPl
 have HPM:=Lib.hid hPm
 by_cases h0:q.its.length=0
 ·obtain⟨z1,z2,_⟩:=Qu.off_end q (k:=0) (by omega)
  rw[Qu.off_zero] at z1 z2
  rw[z1,z2] at hhd ⊢
  have ht:q.take=q:=by
   obtain⟨r,l,its⟩:=q
   have:its=[]:=List.eq_nil_of_length_eq_zero h0
   subst this
   rfl
  rw[ht]
  simp only[itV,itA,dI] at hhd ⊢
  have HH:=Lib.hid hhd
  clear hhd hb hi hPm hPl hNo h0 z1 z2 ht
  go_enter Tryd.func13,Tryd.ntmps13
  go_wp2_with fail
  refine HH.out.mono ?_
  rintro e w1 ⟨pa,pc,rfl,hd,n1⟩
  have X2:=(X0.out.nb n1).nb (Nb.rfl.al (.cells #[.int .i64 0,.int .i64 0,.int .u32 0,.bool false,.bool false,.bool false,.bool false,.bool false,.int .u8 0,.int .u8 0,.int .u32 0,.slice pa 0 pc] 43))
  have N1:=Lib.hid ((Nb.rfl.al _:Nb w _).tr n1)
  have HD:=Lib.hid hd
  have XX:=Lib.hid X2
  clear X2 hd n1 HH X0
  go_wp2_with (refine wpList_store_row (by rfl) _ _ _ (by rfl) _ _ (by rfl) (by rfl) _ _ XX.out (by kernel_rfl) (by rfl) (by simp[Value.oneCell']) ?_)
  have hb2:=XX.out.rowD #[.int .i64 0,.int .i64 0,.int .u32 0,.bool false,.bool false,.bool false,.bool false,.bool false,.int .u8 0,.int .u8 0,.int .u32 0,.slice pa 0 pc]
  have kq:=Kp.rowD (w1.alloc (.cells #[.int .i64 0,.int .i64 0,.int .u32 0,.bool false,.bool false,.bool false,.bool false,.bool false,.int .u8 0,.int .u8 0,.int .u32 0,.slice pa 0 pc] 43)) w.heap.size #[.int .i64 0,.int .i64 0,.int .u32 0,.bool false,.bool false,.bool false,.bool false,.bool false,.int .u8 0,.int .u8 0,.int .u32 0,.slice pa 0 pc]
  change bodyPost _ _ _ _ _ (World.setRow (w1.alloc (.cells #[.int .i64 0,.int .i64 0,.int .u32 0,.bool false,.bool false,.bool false,.bool false,.bool false,.int .u8 0,.int .u8 0,.int .u32 0,.slice pa 0 pc] 43)) w.heap.size #[.int .i64 0,.int .i64 0,.int .u32 0,.bool false,.bool false,.bool false,.bool false,.bool false,.int .u8 0,.int .u8 0,.int .u32 0,.slice pa 0 pc])
  generalize World.setRow (w1.alloc (.cells #[.int .i64 0,.int .i64 0,.int .u32 0,.bool false,.bool false,.bool false,.bool false,.bool false,.int .u8 0,.int .u8 0,.int .u32 0,.slice pa 0 pc] 43)) w.heap.size #[.int .i64 0,.int .i64 0,.int .u32 0,.bool false,.bool false,.bool false,.bool false,.bool false,.int .u8 0,.int .u8 0,.int .u32 0,.slice pa 0 pc]=WW at hb2 kq ⊢
  obtain⟨e0,e1,e2,e3,e4,e5,e6,e7,e8,e9,e10,e11⟩:=hb2.c12
  have nW:Nb w WW:=(N1.out.al _).trans (kq.toBelow (N1.out.al _).size (fun k hk=>by omega))
  exact bodyPost_ret (v := .tuple #[.agg #[.int .i64 0,.int .i64 0,.int .u32 0,.bool false,.bool false,.bool false,.bool false,.bool false,.int .u8 0,.int .u8 0,.int .u32 0,.slice pa 0 pc],.int .i64 9]) (by simp[results,Tryd.results13,go_sem,e0,e1,e2,e3,e4,e5,e6,e7,e8,e9,e10,e11]) rfl ⟨pa,pc,rfl,⟨⟨HD.out.1.hcap,HD.out.1.hmax,by simp,by simp⟩,fun b o t _ h=>by simp at h⟩,P,RQ.nb (show RQ w m q P from ⟨a,c,HB.out,HI.out,HPM.out,HP.out,HNo.out⟩) nW,Kp.ofNb nW,fun k hk => .inl hk⟩
 ·obtain⟨⟨nx,⟨Kx,Ix,Xx,Rx,Bx,Ex,Sx,Dx,Vx,Ax⟩,lx⟩,hx⟩:∃ x,q.its.getD 0 dI=x:=⟨_,rfl⟩
  obtain⟨z1,z2⟩:=Qu.off_head q (k:=0) (by omega)
  rw[Qu.off_zero,hx] at z1
  rw[Qu.off_zero] at z2
  rw[z1,z2] at hhd ⊢
  simp only[itV,itA] at hhd ⊢
  have hcut:∀ w,(Instr.sliceAt 30 (.slice a q.its.length c) (some (.int .i64 1)) none none).run Tryd.prog w = .ok (.slice (cutI a c 1) (q.its.length - 1) (c - 1)) w:=fun w=>run_cutLI a _ c 1 (by omega) w
  have hi1:=hi.cutL 1 (by omega)
  have HI1:=Lib.hid hi1
  have HH:=Lib.hid hhd
  have hcp:=hi.hcap
  have hne:w.heap.size≠m:=by omega
  clear hhd hb hi hPm hPl hNo z1 z2 hx hi1
  go_enter Tryd.func13,Tryd.ntmps13
  go_wp2_with fail
  refine HH.out.mono ?_
  rintro e w1 ⟨pa,pc,rfl,hd,n1⟩
  have N1:=Lib.hid ((Nb.rfl.al _:Nb w _).tr n1)
  have B1:=HB.out.nb N1.out
  have X2:=((X0.out.nb n1).other (p:=⟨m,2,none⟩) hne (.slice (cutI a c 1) (q.its.length - 1) (c - 1))).nb (Nb.rfl.al (.cells #[.int .i64 nx,.int .i64 Kx,.int .u32 Ix,.bool Xx,.bool Rx,.bool Bx,.bool Ex,.bool Sx,.int .u8 Dx,.int .u8 Vx,.int .u32 Ax,.slice pa lx.length pc] 43))
  have B2:=(B1.set 2 (.slice (cutI a c 1) (q.its.length - 1) (c - 1))).nb (Nb.rfl.al (.cells #[.int .i64 nx,.int .i64 Kx,.int .u32 Ix,.bool Xx,.bool Rx,.bool Bx,.bool Ex,.bool Sx,.int .u8 Dx,.int .u8 Vx,.int .u32 Ax,.slice pa lx.length pc] 43))
  have k2:Kp (fun k=>k=m) w1 ((w1.setCell ⟨m,2,none⟩ (.slice (cutI a c 1) (q.its.length - 1) (c - 1))).alloc (.cells #[.int .i64 nx,.int .i64 Kx,.int .u32 Ix,.bool Xx,.bool Rx,.bool Bx,.bool Ex,.bool Sx,.int .u8 Dx,.int .u8 Vx,.int .u32 Ax,.slice pa lx.length pc] 43)):=(Kp.set (F:=fun k=>k=m) rfl).tr (Kp.ofNb (Nb.rfl.al _)) (fun k hk => .inl hk)
  have r2:=B1.cell 2
  have g2:=B1.frozen 2
  have hm1:=B1.lt
  simp only[List.getElem?_toArray,List.getElem?_cons_zero,List.getElem?_cons_succ] at r2
  have HD:=Lib.hid hd
  have XX:=Lib.hid X2
  have BB:=Lib.hid B2
  have KK:=Lib.hid k2
  clear X2 B2 k2 hd n1 HH X0 B1
  go_wp2_with (refine wpList_store_row (by rfl) _ _ _ (by rfl) _ _ (by rfl) (by rfl) _ _ XX.out (by kernel_rfl) (by rfl) (by simp[Value.oneCell']) ?_)
  have hb2:=XX.out.rowD #[.int .i64 nx,.int .i64 Kx,.int .u32 Ix,.bool Xx,.bool Rx,.bool Bx,.bool Ex,.bool Sx,.int .u8 Dx,.int .u8 Vx,.int .u32 Ax,.slice pa lx.length pc]
  have kq:=Kp.rowD ((w1.setCell ⟨m,2,none⟩ (.slice (cutI a c 1) (q.its.length - 1) (c - 1))).alloc (.cells #[.int .i64 nx,.int .i64 Kx,.int .u32 Ix,.bool Xx,.bool Rx,.bool Bx,.bool Ex,.bool Sx,.int .u8 Dx,.int .u8 Vx,.int .u32 Ax,.slice pa lx.length pc] 43)) w.heap.size #[.int .i64 nx,.int .i64 Kx,.int .u32 Ix,.bool Xx,.bool Rx,.bool Bx,.bool Ex,.bool Sx,.int .u8 Dx,.int .u8 Vx,.int .u32 Ax,.slice pa lx.length pc]
  change bodyPost _ _ _ _ _ (World.setRow ((w1.setCell ⟨m,2,none⟩ (.slice (cutI a c 1) (q.its.length - 1) (c - 1))).alloc (.cells #[.int .i64 nx,.int .i64 Kx,.int .u32 Ix,.bool Xx,.bool Rx,.bool Bx,.bool Ex,.bool Sx,.int .u8 Dx,.int .u8 Vx,.int .u32 Ax,.slice pa lx.length pc] 43)) w.heap.size #[.int .i64 nx,.int .i64 Kx,.int .u32 Ix,.bool Xx,.bool Rx,.bool Bx,.bool Ex,.bool Sx,.int .u8 Dx,.int .u8 Vx,.int .u32 Ax,.slice pa lx.length pc])
  generalize World.setRow ((w1.setCell ⟨m,2,none⟩ (.slice (cutI a c 1) (q.its.length - 1) (c - 1))).alloc (.cells #[.int .i64 nx,.int .i64 Kx,.int .u32 Ix,.bool Xx,.bool Rx,.bool Bx,.bool Ex,.bool Sx,.int .u8 Dx,.int .u8 Vx,.int .u32 Ax,.slice pa lx.length pc] 43)) w.heap.size #[.int .i64 nx,.int .i64 Kx,.int .u32 Ix,.bool Xx,.bool Rx,.bool Bx,.bool Ex,.bool Sx,.int .u8 Dx,.int .u8 Vx,.int .u32 Ax,.slice pa lx.length pc]=WW at hb2 kq ⊢
  obtain⟨e0,e1,e2,e3,e4,e5,e6,e7,e8,e9,e10,e11⟩:=hb2.c12
  have nA:Nb w w1:=N1.out
  have kW:Kp (fun k=>k=m\/k=w.heap.size) w1 WW:=(KK.out.mono (fun k _ hk => .inl hk)).tr kq (fun k hk => .inl (.inr hk))
  have kw:Kp (fun k=>k=m) w WW:=(Kp.ofNb nA).tr kW (fun k hk=>by
   rcases hk with h | h
   ·exact .inl h
   ·exact .inr (by omega))
  have hPd:∀ k,P k->¬(k=m\/k=w.heap.size):=fun k hk hh=>by
   rcases hh with rfl | rfl
   ·exact HPM.out hk
   ·have:=HP.out _ hk
    omega
  have hbm:Blk WW m #[.int .i64 (q.room:Nat),.int .i64 (q.last:Nat),.slice (cutI a c 1) (q.its.length - 1) (c - 1)] 32:=BB.out.keep kq (by omega)
  exact bodyPost_ret (v := .tuple #[.agg #[.int .i64 nx,.int .i64 Kx,.int .u32 Ix,.bool Xx,.bool Rx,.bool Bx,.bool Ex,.bool Sx,.int .u8 Dx,.int .u8 Vx,.int .u32 Ax,.slice pa lx.length pc],.int .i64 0]) (by simp[results,Tryd.results13,go_sem,e0,e1,e2,e3,e4,e5,e6,e7,e8,e9,e10,e11]) rfl ⟨pa,pc,rfl,HD.out.keep kW hPd,P,⟨cutI a c 1,c - 1,by rw[show q.take.its.length=q.its.length - 1 by simp[Qu.take]];exact hbm,(HI1.out.nb nA).keep kW hPd,HPM.out,fun k hk=>Nat.lt_of_lt_of_le (HP.out k hk) kw.size,cutI_none HNo.out⟩,kw,fun k hk => .inl hk⟩
end Go.Proofs.YtdedoeeekcfkpaaDoor
