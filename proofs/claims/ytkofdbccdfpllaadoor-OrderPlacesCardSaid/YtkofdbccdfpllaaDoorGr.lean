/- An append onto a slice of bytes of the own call, as a step of a region whose order is drawn. Condition: at least one byte is appended, sizes below 2 to the 47. -/
import Derived.Test.YtkofdbccdfpllaaDoorGa
import Derived.Deep.RegionLawGrows
import Derived.OwnWalk
namespace Go.Proofs.YtkofdbccdfpllaaDoor
set_option linter.unusedVariables false
set_option linter.unusedSimpArgs false
open Go.RowKit
theorem step_appB (w:World) {ops:Array Oper} {o:Oper} {a:Act} {K:Act->World->Prop} {Q:Exit->Act->World->Prop} {E:Prop}
    (hg:o.guard=none) (s x:Operand) (hop:o.op=Op.call { callee:=Callee.builtin Builtin.append,args:=#[s,x],argTypes:=#[35,35] })
    (v:Value) (l:List Nat) (hs:a.eval s=v) (hown:OwnB w v l)
    (ao:Option Addr) (c:Nat) (ns:List Nat) (m:Nat) (hm:m=ns.length) (hx:a.eval x = .slice ao m c) (hb:Bs w ao c ns) (hpos:0 < ns.length)
    (b1:l.length+ns.length<=140737488355328)
    (hK:∀ v' w',OwnB w' v' (l++ns)->Kp (fun k=>v.ownBlock=some k) w w'->(∀ g,v'.ownBlock=some g->v.ownBlock=some g\/w.heap.size<=g)->K (a.put o.dst v') w') :
    if Region.wanted o (yielded ops a.tmps)=true then Oper.wp Tryd.prog o a w K Q else E:=by
 obtain⟨i0,hi,hz0,hz1,hz2⟩:=info_parts infoU8
 subst hm
 obtain⟨b,o',rfl,hcell⟩:=hb.hcells hpos
 have hc:∀ j u,(ns.map fun x:Nat=>Value.int .u8 (x:Int))[j]? = some u->w.cell? ((⟨b,o',none⟩:Addr).add j)=some u:=by
  intro j u hu
  have hj:j < ns.length:=by
   have:=(List.getElem?_eq_some_iff.1 hu).1
   simpa using this
  rw[Addr.add_lit,hcell j hj]
  rw[<- hu]
  simp[List.getD,hj]
 have h1c:∀ u∈(ns.map fun x:Nat=>Value.int .u8 (x:Int)),u.oneCell'=true:=by
  intro u hu
  obtain⟨y,_,rfl⟩:=List.mem_map.1 hu
  rfl
 have hby:∀ y∈l++ns,y < 256:=by
  intro y hy
  rcases List.mem_append.1 hy with h | h
  ·exact hown.2 y h
  ·exact hb.hbyte y h
 have hlen:(ns.map fun x:Nat=>Value.int .u8 (x:Int)).length=ns.length*1:=by simp
 have hnew:∀ v' w',w'.ownsRow w.heap.size 5 1 v' (l.length+ns.length) ((l.map fun x:Nat=>Value.int .u8 (x:Int))++(ns.map fun x:Nat=>Value.int .u8 (x:Int)))->w.grownBy w' none->K (a.put o.dst v') w':=fun v' w' ho hgr =>
  hK v' w' ⟨by simpa using ownsRow_weak ho,hby⟩ (Kp.grown hgr (by simp)) (fun g hg => .inr (ho.lt g hg).1)
 rcases hown.1.2 with ⟨rfl,h2⟩ | ⟨g,cap,cur,rfl,hbg,hgg,hnc,hcm,hcs,htake⟩
 ·have hl:l=[]:=List.length_eq_zero_iff.1 h2
  subst hl
  exact step_append_grows hg s x 35 hop 5 i0 (.int .u8 0) 1 1 Tryd.underlying35 hi hz0 hz1 hz2 rfl (by decide) none 0 0 [] hs (fun _=>⟨rfl,rfl⟩) (by simp) (by simp) ⟨b,o',none⟩ ns.length c _ hx hlen hc h1c (by omega) (by unfold maxLen;simp only[List.length_nil] at b1;omega) (by simp only[List.length_nil] at b1;omega) (by simpa using hnew)
 ·by_cases hroom:l.length+ns.length<=cap
  ·have hw:Region.wanted o (yielded ops a.tmps)=true:=by simp[Region.wanted,hg]
   rw[if_pos hw]
   obtain⟨w',hrun,r1,r2⟩:=run_append_fits (P:=Tryd.prog) w 0 35 o.type 5 i0 1 Tryd.underlying35 hi hz1 g l.length cap _ hown.1 ⟨b,o',none⟩ ns.length c _ hlen hc h1c hroom
   unfold Oper.wp
   simp[execOp,hop,resolve,invoke,builtin,hs,hx,hrun,Result.andThen]
   exact hK _ _ ⟨by simpa using r1,hby⟩ (Kp.grown r2 (fun k hk=>by simpa [Value.ownBlock] using hk)) (fun k hk => .inl (by simpa [Value.ownBlock] using hk))
  ·exact step_append_grows hg s x 35 hop 5 i0 (.int .u8 0) 1 1 Tryd.underlying35 hi hz0 hz1 hz2 rfl (by decide) (some ⟨g,0,none⟩) l.length cap _ hs (by simp) (by simp) (fun b hb=>by cases hb;exact hown.1.cells (g:=g) rfl) ⟨b,o',none⟩ ns.length c _ hx hlen hc h1c (by omega) (by unfold maxLen;omega) (by omega) hnew
theorem step_appBn (w:World) {ops:Array Oper} {o:Oper} {a:Act} {K:Act->World->Prop} {Q:Exit->Act->World->Prop} {E:Prop}
    (hg:o.guard=none) (s x:Operand) (hop:o.op=Op.call { callee:=Callee.builtin Builtin.append,args:=#[s,x],argTypes:=#[35,35] })
    (v:Value) (l:List Nat) (hs:a.eval s=v) (hown:OwnB w v l) (hl0:0 < l.length)
    (ao:Option Addr) (c:Nat) (ns:List Nat) (m:Nat) (hm:m=ns.length) (hx:a.eval x = .slice ao m c) (hb:Bs w ao c ns) (hnone:ao=none->c=0)
    (b1:l.length+ns.length<=140737488355328)
    (hK:∀ v' w',OwnB w' v' (l++ns)->Kp (fun k=>v.ownBlock=some k) w w'->(∀ g,v'.ownBlock=some g->v.ownBlock=some g\/w.heap.size<=g)->K (a.put o.dst v') w') :
    if Region.wanted o (yielded ops a.tmps)=true then Oper.wp Tryd.prog o a w K Q else E:=by
 by_cases hpos:0 < ns.length
 ·exact step_appB w hg s x hop v l hs hown ao c ns m hm hx hb hpos b1 hK
 have hns:ns=[]:=List.length_eq_zero_iff.1 (by omega)
 subst hns
 subst hm
 obtain⟨i0,hi,hz0,hz1,hz2⟩:=info_parts infoU8
 have hw:Region.wanted o (yielded ops a.tmps)=true:=by simp[Region.wanted,hg]
 rw[if_pos hw]
 obtain⟨g,cap,rfl⟩:=hown.shape hl0
 cases ao with
 | none =>
   obtain rfl:=hnone rfl
   have hrun:=run_append_owned_none (P:=Tryd.prog) w 0 35 o.type 5 i0 1 Tryd.underlying35 hi _ l.length _ hown.1
   unfold Oper.wp
   simp only[List.length_nil] at hx
   simp[execOp,hop,resolve,invoke,builtin,hs,hx,hrun,Result.andThen]
   exact hK _ w (by simpa using hown) (Kp.rfl) (fun k hk => .inl hk)
 | some ad =>
   obtain⟨_,hcap⟩:True/\l.length<=cap:=⟨trivial,hown.asBs.1.hcap⟩
   obtain⟨w',hrun,r1,r2⟩:=run_append_fits (P:=Tryd.prog) w 0 35 o.type 5 i0 1 Tryd.underlying35 hi hz1 g l.length cap _ hown.1 ad 0 c [] (by simp) (by simp) (by simp) (by omega)
   simp only[List.length_nil] at hx
   unfold Oper.wp
   simp[execOp,hop,resolve,invoke,builtin,hs,hx,hrun,Result.andThen]
   exact hK _ _ ⟨by simpa using r1,by simpa using hown.2⟩ (Kp.grown r2 (fun k hk=>by simpa [Value.ownBlock] using hk)) (fun k hk => .inl (by simpa [Value.ownBlock] using hk))
end Go.Proofs.YtkofdbccdfpllaaDoor
