
/- An append onto a slice of bytes of the own call, as a step of a region whose order is drawn, with the word that the old cells are as they were. Conditions: at least one byte is appended, sizes below 2 to the 47. -/
import Derived.Test.YtipefblpppmabaaGreatDoorGr
namespace Go.Proofs.YtipefblpppmabaaGreatDoor
set_option linter.unusedVariables false
set_option linter.unusedSimpArgs false
open Go.RowKit
theorem step_appC (w:World) {ops:Array Oper} {o:Oper} {a:Act} {K:Act->World->Prop} {Q:Exit->Act->World->Prop} {E:Prop}
    (hg:o.guard=none) (s x:Operand) (hop:o.op=Op.call { callee:=Callee.builtin Builtin.append,args:=#[s,x],argTypes:=#[32,32] })
    (v:Value) (l:List Nat) (hs:a.eval s=v) (hown:OwnB w v l)
    (ao:Option Addr) (c:Nat) (ns:List Nat) (m:Nat) (hm:m=ns.length) (hx:a.eval x = .slice ao m c) (hb:Bs w ao c ns) (hpos:0 < ns.length)
    (b1:l.length+ns.length<=140737488355328)
    (hK:∀ v' w',OwnB w' v' (l++ns)->Kp (fun k=>v.ownBlock=some k) w w'->(∀ g,v'.ownBlock=some g->v.ownBlock=some g\/w.heap.size<=g)->(∀ g cap j,v = .slice (some ⟨g,0,none⟩) l.length cap->j < l.length->w'.cell? ⟨g,j,none⟩=some (.int .u8 ((l.getD j 0:Nat):Int)))->K (a.put o.dst v') w') :
    if Region.wanted o (yielded ops a.tmps)=true then Oper.wp Tryz.prog o a w K Q else E:=by
 obtain⟨i0,hi,hz0,hz1,hz2⟩:=info_parts infoU8
 subst hm
 obtain⟨b,o',rfl,hcell⟩:=hb.hcells hpos
 have hc:∀ j u,(ns.map fun x:Nat=>Value.int .u8 (x:Int))[j]? = some u->w.cell? ((⟨b,o',none⟩:Addr).add j)=some u:=by
  intro j u hu
  have hj:j < ns.length:=by
   have:=(List.getElem?_eq_some_iff.1 hu).1
   simpa using this
  rw[Addr.add_lit,hcell j hj]
  rw[<- hu]
  simp[List.getD,hj]
 have h1c:∀ u∈(ns.map fun x:Nat=>Value.int .u8 (x:Int)),u.oneCell'=true:=by
  intro u hu
  obtain⟨y,_,rfl⟩:=List.mem_map.1 hu
  rfl
 have hby:∀ y∈l++ns,y < 256:=by
  intro y hy
  rcases List.mem_append.1 hy with h | h
  ·exact hown.2 y h
  ·exact hb.hbyte y h
 have hlen:(ns.map fun x:Nat=>Value.int .u8 (x:Int)).length=ns.length*1:=by simp
 have hnew:∀ v' w',w'.ownsRow w.heap.size 5 1 v' (l.length+ns.length) ((l.map fun x:Nat=>Value.int .u8 (x:Int))++(ns.map fun x:Nat=>Value.int .u8 (x:Int)))->w.grownBy w' none->K (a.put o.dst v') w':=fun v' w' ho hgr =>
  hK v' w' ⟨by simpa using ownsRow_weak ho,hby⟩ (Kp.grown hgr (by simp)) (fun g hg => .inr (ho.lt g hg).1) (fun g cap j hv hj=>by subst hv;exact (hown.keep (F:=fun _=>False) (Kp.grown hgr (by simp)) (by simp)).cell j hj)
 rcases hown.1.2 with ⟨rfl,h2⟩ | ⟨g,cap,cur,rfl,hbg,hgg,hnc,hcm,hcs,htake⟩
 ·have hl:l=[]:=List.length_eq_zero_iff.1 h2
  subst hl
  exact step_append_grows hg s x 32 hop 5 i0 (.int .u8 0) 1 1 Tryz.underlying32 hi hz0 hz1 hz2 rfl (by decide) none 0 0 [] hs (fun _=>⟨rfl,rfl⟩) (by simp) (by simp) ⟨b,o',none⟩ ns.length c _ hx hlen hc h1c (by omega) (by unfold maxLen;simp only[List.length_nil] at b1;omega) (by simp only[List.length_nil] at b1;omega) (by simpa using hnew)
 ·by_cases hroom:l.length+ns.length<=cap
  ·have hw:Region.wanted o (yielded ops a.tmps)=true:=by simp[Region.wanted,hg]
   rw[if_pos hw]
   obtain⟨w',hrun,r1,r2⟩:=run_append_fits (P:=Tryz.prog) w 0 32 o.type 5 i0 1 Tryz.underlying32 hi hz1 g l.length cap _ hown.1 ⟨b,o',none⟩ ns.length c _ hlen hc h1c hroom
   unfold Oper.wp
   simp[execOp,hop,resolve,invoke,builtin,hs,hx,hrun,Result.andThen]
   exact hK _ _ ⟨by simpa using r1,hby⟩ (Kp.grown r2 (fun k hk=>by simpa [Value.ownBlock] using hk)) (fun k hk => .inl (by simpa [Value.ownBlock] using hk)) (fun g' cap' j hv hj=>by
    simp only[Value.slice.injEq,Option.some.injEq,Addr.mk.injEq,and_true,true_and] at hv
    obtain⟨rfl,rfl⟩:=hv
    have:=OwnB.cell (w:=w') (m:=l++ns) (show OwnB w' (.slice (some ⟨g,0,none⟩) (l.length+ns.length) cap) (l++ns) from ⟨by simpa using r1,hby⟩) j (by rw[List.length_append];omega)
    rwa[List.getD,List.getElem?_append_left hj,<- List.getD] at this)
  ·exact step_append_grows hg s x 32 hop 5 i0 (.int .u8 0) 1 1 Tryz.underlying32 hi hz0 hz1 hz2 rfl (by decide) (some ⟨g,0,none⟩) l.length cap _ hs (by simp) (by simp) (fun b hb=>by cases hb;exact hown.1.cells (g:=g) rfl) ⟨b,o',none⟩ ns.length c _ hx hlen hc h1c (by omega) (by unfold maxLen;omega) (by omega) hnew
end Go.Proofs.YtipefblpppmabaaGreatDoor
