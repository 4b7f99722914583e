/- Places put in order one by one, each behind all whose key is no higher, and more. Conditions: as each says. -/
import Derived.Test.YtplbmlpdefpplaaGreatDoorGor
namespace Go.Proofs.YtplbmlpdefpplaaGreatDoor
set_option linter.unusedVariables false
set_option linter.unusedSimpArgs false
open Go.RowKit
variable {l:List Nat} {v:Value} {w w':World}
theorem zlk:(Tryz.prog.info? 3).map (fun i=>(i.zero,i.size,i.bytes))=some (some (.int .i64 0),1,8):=by kernel_rfl
def z7p(w:World)(v:Value)(l:List Nat):Prop:=w.ownsRow 0 3 1 v l.length (l.map fun x:Nat=>Value.int .i64 (x:Int))
theorem z7p.nil(w:World):z7p w (.slice none 0 0) []:=World.ownsRow_nil _ _ _ _
theorem z7p.keep{F:Nat->Prop}(h:z7p w v l)(hk:Kp F w w')(hn:∀g,v.ownBlock=some g->¬F g):z7p w' v l:=by
 obtain⟨h1,h2⟩:=h
 refine⟨h1,?_⟩
 rcases h2 with h2 | ⟨g,cap,cur,rfl,hb,hg,r⟩
 ·exact .inl h2
 ·exact .inr ⟨g,cap,cur,rfl,hb,(hk.block g (Array.getElem?_eq_some_iff.1 hg).1 (hn g rfl)).trans hg,r⟩
theorem z7p.nb(h:z7p w v l)(hb:Nb w w'):z7p w' v l:=h.keep (F:=fun _=>False) (Kp.ofNb hb) (by simp)
theorem z7p.shape(h:z7p w v l):∃a c,v = .slice a l.length c/\(0 < l.length->∃g,a=some ⟨g,0,none⟩)/\l.length<=c/\c<=maxLen:=by
 rcases h.2 with ⟨rfl,h2⟩ | ⟨g,cap,cur,rfl,hb,hg,hn,hc,r⟩
 ·exact⟨none,0,by rw[h2],fun h=>by omega,by omega,by simp[maxLen]⟩
 ·exact⟨_,cap,rfl,fun _=>⟨g,rfl⟩,hn,hc⟩
theorem z7p.cell{w:World}{g n cap:Nat}{l:List Nat}(h:z7p w (.slice (some ⟨g,0,none⟩) n cap) l)(k:Nat)(hk:k < l.length):w.cell? ⟨g,k,none⟩=some (.int .i64 ((l.getD k 0:Nat):Int)):=by
 have hc:=World.ownsRow.cells h (g:=g) rfl k (.int .i64 ((l.getD k 0:Nat):Int)) (by simp[List.getD,hk])
 rwa[Addr.add_lit,Nat.zero_add]at hc
theorem zak (w:World) {ops:Array Oper} {rest:List Oper} {o:Oper} {a:Act} {Q:Exit->Act->World->Prop}
    (hg:o.guard=none) (s x:Operand) (hop:o.op=Op.call { callee:=Callee.builtin Builtin.append,args:=#[s,x],argTypes:=#[30,30] })
    (v:Value) (l:List Nat) (hs:a.eval s=v) (hown:z7p w v l)
    (b:Nat) (y:Nat) (hx:a.eval x = .slice (some ⟨b,0,none⟩) 1 1) (hb:w.cell? ⟨b,0,none⟩=some (.int .i64 (y:Int)))
    (b1:l.length+1<=17592186044416)
    (hK:∀v' w',z7p w' v' (l++[y])->Kp (fun k=>v.ownBlock=some k) w w'->(∀g,v'.ownBlock=some g->v.ownBlock=some g\/w.heap.size<=g)->wpList Tryz.prog ops Q rest (a.put o.dst v') w') :
    wpList Tryz.prog ops Q (o::rest) a w:=by
 obtain⟨i0,hi,hz0,hz1,hz2⟩:=info_parts zlk
 refine z39 w hg s x 30 hop 3 i0 (.int .i64 0) 1 8 Tryz.underlying30 hi hz0 hz1 hz2 rfl (by decide) v l.length _ hs hown (some ⟨b,0,none⟩) 1 1 [.int .i64 (y:Int)] hx rfl (fun h=>by cases h) ?_ ?_ (by unfold maxLen;omega) (by omega) ?_
 ·intro ad had j u hu
  obtain rfl:=Option.some.inj had
  cases j with
  | zero=>simp at hu;subst hu;simpa [Addr.add]using hb
  | succ j=>simp at hu
 ·intro u hu
  simp at hu
  subst hu
  rfl
 ·intro v' w' ho hgr hbl
  exact hK v' w' (by simpa [z7p]using ho) (Kp.grown hgr (fun k hk=>hk)) hbl
def zme:Value->Nat
 | .slice _ n _=>n
 | _=>0
def zmh(w:World)(l:List Nat)(er:Nat)(e:Ending)(w':World):Prop:=∃v,e = .returned (.tuple #[v,.int .i64 (er:Nat)])/\z7p w' v l/\∀g,v.ownBlock=some g->w.heap.size<=g
end Go.Proofs.YtplbmlpdefpplaaGreatDoor
