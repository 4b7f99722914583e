/- Places put in order one by one, each behind all whose key is no higher. No program here. No conditions. Slices of ints and of 64-bit numbers of the own call, as lists of numbers: an append of one, a cell stored. Conditions: sizes below 2 to the 44. -/
import Derived.Test.YtkofdbccdfpllaaDoorGor
import Derived.Test.YtkofdbccdfpllaaDoorGa
namespace Go.Proofs.YtkofdbccdfpllaaDoor
set_option linter.unusedVariables false
set_option linter.unusedSimpArgs false
open Go.RowKit
def mid (o:List Nat) (at' y:Nat):List Nat:=o.take at'++y::o.drop at'
theorem mid_len (o:List Nat) {k:Nat} (y:Nat) (h:k<=o.length):(mid o k y).length=o.length+1:=by
 simp only[mid,List.length_append,List.length_take,List.length_cons,List.length_drop];omega
theorem mid_start (o:List Nat) (y:Nat):mid o o.length y=o++[y]:=by simp[mid]
theorem mid_get (o:List Nat) {k:Nat} (y:Nat) (h:k < o.length):(mid o (k+1) y).getD k 0=o.getD k 0:=by
 unfold mid
 rw[List.getD,List.getElem?_append_left (by rw[List.length_take];omega),List.getElem?_take_of_lt (by omega),<- List.getD]
theorem mid_step (o:List Nat) {k:Nat} (y:Nat) (h:k < o.length):(mid o (k+1) y).set (k+1) (o.getD k 0)=mid o k (o.getD k 0):=by
 have e:o.take (k+1)=o.take k++[o.getD k 0]:=by
  rw[List.take_add_one]
  simp[List.getD,h]
 have e2:o.drop k=o.getD k 0::o.drop (k+1):=by
  rw[List.drop_eq_getElem_cons h]
  simp[List.getD,h]
 unfold mid
 rw[List.set_append_right _ _ (by rw[List.length_take];omega)]
 have:k+1 - (o.take (k+1)).length=0:=by rw[List.length_take];omega
 rw[this,List.set_cons_zero,e,e2]
 simp
theorem mid_end (o:List Nat) {k:Nat} (y z:Nat) (h:k<=o.length):(mid o k y).set k z=mid o k z:=by
 unfold mid
 rw[List.set_append_right _ _ (by rw[List.length_take];omega)]
 have:k - (o.take k).length=0:=by rw[List.length_take];omega
 rw[this,List.set_cons_zero]
theorem mid_perm (o:List Nat) (k z:Nat):(mid o k z).Perm (o++[z]):=by
 have h:(mid o k z).Perm (z::(o.take k++o.drop k)):=List.perm_middle
 rw[List.take_append_drop] at h
 exact h.trans (List.perm_append_comm (l₁:=[z]) (l₂:=o))
theorem rk_snoc (ks:List Nat) (k n:Nat) (hn:n<=(rk ks).length) (hi:∀ x∈(rk ks).drop n,k < ks.getD x 0) (hlo:0 < n->ks.getD ((rk ks).getD (n - 1) 0) 0<=k):rk (ks++[k])=mid (rk ks) n ks.length:=by
 have hlt:=rk_lt ks
 have hs:=rk_sorted ks
 have hp:=rk_perm ks
 have hg:∀ x,x < ks.length->(ks++[k]).getD x 0=ks.getD x 0:=fun x hx=>by simp[List.getD,List.getElem?_append_left hx]
 have hk:(ks++[k]).getD ks.length 0=k:=by simp[List.getD]
 have hlow:∀ x∈(rk ks).take n,ks.getD x 0<=k:=by
  intro x hx
  have h0:0 < n:=by
   rcases Nat.eq_zero_or_pos n with h | h
   ·subst h;simp at hx
   ·exact h
  obtain⟨j,hj,rfl⟩:=List.getElem_of_mem hx
  rw[List.length_take] at hj
  rw[List.getElem_take]
  have hl:=hlo h0
  have e:(rk ks).getD (n - 1) 0=(rk ks)[n - 1]:=by simp[List.getD,show n - 1 < (rk ks).length by omega]
  rw[e] at hl
  rcases Nat.lt_or_ge j (n - 1) with h | h
  ·have:=List.pairwise_iff_getElem.1 hs j (n - 1) (by omega) (by omega) h
   unfold leP at this
   simp only at this
   omega
  ·have:j=n - 1:=by omega
   subst this
   exact hl
 have hmem:∀ x∈mid (rk ks) n ks.length,x < ks.length+1:=fun x hx=>by
  have:=(mid_perm (rk ks) n ks.length).mem_iff.1 hx
  rcases List.mem_append.1 this with h | h
  ·have:=hlt x h;omega
  ·simp at h;omega
 have key:(mid (rk ks) n ks.length).map (fun i=>((ks++[k]).getD i 0,i))=rkP (ks++[k]):=by
  apply rkP_of
  ·have h1:(mid (rk ks) n ks.length).Perm (List.range (ks.length+1)):=by
    rw[List.range_succ]
    exact (mid_perm _ _ _).trans (hp.append_right _)
   have h2:prs (ks++[k])=(List.range (ks.length+1)).map (fun i=>((ks++[k]).getD i 0,i)):=by
    apply List.ext_getElem?
    intro j
    simp only[prs,List.getElem?_zipIdx,List.getElem?_map,List.getElem?_range',List.getD]
    by_cases hj:j < ks.length+1
    ·have:j < (ks++[k]).length:=by simpa using hj
     simp[hj,this,List.getElem?_range]
    ·have:(ks++[k]).length<=j:=by simpa using hj
     simp[this,hj]
   rw[h2]
   exact h1.map _
  ·rw[List.pairwise_map]
   unfold mid
   rw[List.pairwise_append]
   have hsub:∀ x∈rk ks,∀ y∈rk ks,leP (ks.getD x 0,x) (ks.getD y 0,y)->leP ((ks++[k]).getD x 0,x) ((ks++[k]).getD y 0,y):=fun x hx y hy h=>by
    rw[hg x (hlt x hx),hg y (hlt y hy)];exact h
   have hs1:=hs
   rw[<- List.take_append_drop n (rk ks),List.pairwise_append] at hs1
   obtain⟨p1,p2,p3⟩:=hs1
   refine⟨p1.imp_of_mem (fun {x y} hx hy h=>hsub x (List.mem_of_mem_take hx) y (List.mem_of_mem_take hy) h),?_,?_⟩
   ·rw[List.pairwise_cons]
    refine⟨fun y hy => ?_,p2.imp_of_mem (fun {x y} hx hy h=>hsub x (List.mem_of_mem_drop hx) y (List.mem_of_mem_drop hy) h)⟩
    rw[hk,hg y (hlt y (List.mem_of_mem_drop hy))]
    have:=hi y hy
    unfold leP
    simp only
    omega
   ·intro x hx y hy
    rcases List.mem_cons.1 hy with rfl | hy
    ·rw[hk,hg x (hlt x (List.mem_of_mem_take hx))]
     have h1:=hlow x hx
     have h2:=hlt x (List.mem_of_mem_take hx)
     unfold leP
     simp only
     omega
    ·exact hsub x (List.mem_of_mem_take hx) y (List.mem_of_mem_drop hy) (p3 x hx y hy)
 have:=congrArg (List.map (·.2)) key
 rw[List.map_map] at this
 rw[rk,<- this]
 conv=>rhs;rw[<- List.map_id (mid (rk ks) n ks.length)]
 rfl
theorem rk_head {ks:List Nat} {done:List (Nat × Nat)} {rest:List (Nat × Nat)} (hp:(done++rest).Perm (prs ks)) (hs:done.Pairwise leP) (hd:∀ p∈done,∀ q∈rest,leP p q) (h0:rest=[]):done=rkP ks:=by
 subst h0
 rw[List.append_nil] at hp
 exact rkP_of hp hs
theorem take_next {ks:List Nat} {done rest rest':List (Nat × Nat)} {p:Nat × Nat} (hp:(done++rest).Perm (prs ks)) (hs:done.Pairwise leP) (hd:∀ p∈done,∀ q∈rest,leP p q) (hr:rest.Perm (p::rest')) (hm:∀ q∈rest,leP p q) :
    ((done++[p])++rest').Perm (prs ks)/\(done++[p]).Pairwise leP/\(∀ x∈done++[p],∀ q∈rest',leP x q):=by
 refine⟨?_,?_,?_⟩
 ·rw[List.append_assoc]
  exact (hr.symm.append_left done).trans hp
 ·rw[List.pairwise_append]
  refine⟨hs,by simp,fun x hx y hy => ?_⟩
  simp at hy
  subst hy
  exact hd x hx y (hr.mem_iff.2 (by simp))
 ·intro x hx q hq
  have hq':q∈rest:=hr.mem_iff.2 (by simp[hq])
  rcases List.mem_append.1 hx with h | h
  ·exact hd x h q hq'
  ·simp at h
   subst h
   exact hm q hq'
end Go.Proofs.YtkofdbccdfpllaaDoor
namespace Go.Proofs.YtkofdbccdfpllaaDoor
set_option linter.unusedVariables false
set_option linter.unusedSimpArgs false
open Go.RowKit
theorem infoN:(Tryd.prog.info? 3).map (fun i=>(i.zero,i.size,i.bytes))=some (some (.int .i64 0),1,8):=by kernel_rfl
def OwnN (w:World) (v:Value) (l:List Nat):Prop:=w.ownsRow 0 3 1 v l.length (l.map fun x:Nat=>Value.int .i64 (x:Int))
theorem OwnN.nil (w:World):OwnN w (.slice none 0 0) []:=World.ownsRow_nil _ _ _ _
theorem OwnN.keep {F:Nat->Prop} {w w':World} {v:Value} {l:List Nat} (h:OwnN w v l) (hk:Kp F w w') (hn:∀ g,v.ownBlock=some g->¬F g):OwnN w' v l:=by
 obtain⟨h1,h2⟩:=h
 refine⟨h1,?_⟩
 rcases h2 with h2 | ⟨g,cap,cur,rfl,hb,hg,r⟩
 ·exact .inl h2
 ·exact .inr ⟨g,cap,cur,rfl,hb,(hk.block g (Array.getElem?_eq_some_iff.1 hg).1 (hn g rfl)).trans hg,r⟩
theorem OwnN.nb {w w':World} {v:Value} {l:List Nat} (h:OwnN w v l) (hb:Nb w w'):OwnN w' v l:=h.keep (F:=fun _=>False) (Kp.ofNb hb) (by simp)
theorem OwnN.lt {w:World} {v:Value} {l:List Nat} (h:OwnN w v l) {g:Nat} (hg:v.ownBlock=some g):g < w.heap.size:=(World.ownsRow.lt h g hg).2
theorem OwnN.shape {w:World} {v:Value} {l:List Nat} (h:OwnN w v l):∃ a c,v = .slice a l.length c/\(0 < l.length->∃ g,a=some ⟨g,0,none⟩)/\l.length<=c/\c<=maxLen:=by
 rcases h.2 with ⟨rfl,h2⟩ | ⟨g,cap,cur,rfl,hb,hg,hn,hc,r⟩
 ·exact⟨none,0,by rw[h2],fun h=>by omega,by omega,by simp[maxLen]⟩
 ·exact⟨_,cap,rfl,fun _=>⟨g,rfl⟩,hn,hc⟩
theorem OwnN.cell {w:World} {g n cap:Nat} {l:List Nat} (h:OwnN w (.slice (some ⟨g,0,none⟩) n cap) l) (k:Nat) (hk:k < l.length):w.cell? ⟨g,k,none⟩=some (.int .i64 ((l.getD k 0:Nat):Int)):=by
 have hc:=World.ownsRow.cells h (g:=g) rfl k (.int .i64 ((l.getD k 0:Nat):Int)) (by simp[List.getD,hk])
 rwa[Addr.add_lit,Nat.zero_add] at hc
theorem OwnN.frozen {w:World} {v:Value} {l:List Nat} (h:OwnN w v l) {g:Nat} (hg:v.ownBlock=some g) (j:Nat):w.frozen? ⟨g,j,none⟩=false:=by
 rcases h.2 with ⟨rfl,h2⟩ | ⟨g',cap,cur,rfl,hb,hh,r⟩
 ·simp[Value.ownBlock] at hg
 ·simp[Value.ownBlock] at hg
  subst hg
  simp[World.frozen?,hh]
theorem OwnN.set {w:World} {g n cap:Nat} {l:List Nat} (h:OwnN w (.slice (some ⟨g,0,none⟩) n cap) l) (j:Nat) (hj:j < l.length) (y:Nat):OwnN (w.setCell ⟨g,j,none⟩ (.int .i64 (y:Int))) (.slice (some ⟨g,0,none⟩) n cap) (l.set j y):=by
 obtain⟨h1,h2⟩:=h
 refine⟨by simp,?_⟩
 rcases h2 with ⟨h2,_⟩ | ⟨g',cap',cur,hv,hb,hh,hn,hm,hs,ht⟩
 ·cases h2
 ·simp only[Value.slice.injEq,Option.some.injEq,Addr.mk.injEq,and_true] at hv
  obtain⟨rfl,rfl,rfl⟩:=hv
  refine .inr ⟨g,cap,cur.setIfInBounds j (.int .i64 (y:Int)),by simp,hb,by simp[World.setCell,Array.getElem?_modify,hh],by simpa using hn,hm,by simpa using hs,?_⟩
  rw[Nat.mul_one] at ht
  rw[List.length_set,Nat.mul_one,Array.toList_setIfInBounds,List.take_set,ht,List.map_set]
theorem wpList_appN (w:World) {ops:Array Oper} {rest:List Oper} {o:Oper} {a:Act} {Q:Exit->Act->World->Prop}
    (hg:o.guard=none) (s x:Operand) (hop:o.op=Op.call { callee:=Callee.builtin Builtin.append,args:=#[s,x],argTypes:=#[24,24] })
    (v:Value) (l:List Nat) (hs:a.eval s=v) (hown:OwnN w v l)
    (b:Nat) (y:Nat) (hx:a.eval x = .slice (some ⟨b,0,none⟩) 1 1) (hb:w.cell? ⟨b,0,none⟩=some (.int .i64 (y:Int)))
    (b1:l.length+1<=17592186044416)
    (hK:∀ v' w',OwnN w' v' (l++[y])->Kp (fun k=>v.ownBlock=some k) w w'->(∀ g,v'.ownBlock=some g->v.ownBlock=some g\/w.heap.size<=g)->wpList Tryd.prog ops Q rest (a.put o.dst v') w') :
    wpList Tryd.prog ops Q (o::rest) a w:=by
 obtain⟨i0,hi,hz0,hz1,hz2⟩:=info_parts infoN
 refine wpList_app w hg s x 24 hop 3 i0 (.int .i64 0) 1 8 Tryd.underlying24 hi hz0 hz1 hz2 rfl (by decide) v l.length _ hs hown (some ⟨b,0,none⟩) 1 1 [.int .i64 (y:Int)] hx rfl (fun h=>by cases h) ?_ ?_ (by unfold maxLen;omega) (by omega) ?_
 ·intro ad had j u hu
  obtain rfl:=Option.some.inj had
  cases j with
  | zero=>simp at hu;subst hu;simpa [Addr.add] using hb
  | succ j=>simp at hu
 ·intro u hu
  simp at hu
  subst hu
  rfl
 ·intro v' w' ho hgr hbl
  exact hK v' w' (by simpa [OwnN] using ho) (Kp.grown hgr (fun k hk=>hk)) hbl
theorem infoU:(Tryd.prog.info? 46).map (fun i=>(i.zero,i.size,i.bytes))=some (some (.int .u64 0),1,8):=by kernel_rfl
def OwnU (w:World) (v:Value) (l:List Nat):Prop:=w.ownsRow 0 46 1 v l.length (l.map fun x:Nat=>Value.int .u64 (x:Int))
theorem OwnU.nil (w:World):OwnU w (.slice none 0 0) []:=World.ownsRow_nil _ _ _ _
theorem OwnU.keep {F:Nat->Prop} {w w':World} {v:Value} {l:List Nat} (h:OwnU w v l) (hk:Kp F w w') (hn:∀ g,v.ownBlock=some g->¬F g):OwnU w' v l:=by
 obtain⟨h1,h2⟩:=h
 refine⟨h1,?_⟩
 rcases h2 with h2 | ⟨g,cap,cur,rfl,hb,hg,r⟩
 ·exact .inl h2
 ·exact .inr ⟨g,cap,cur,rfl,hb,(hk.block g (Array.getElem?_eq_some_iff.1 hg).1 (hn g rfl)).trans hg,r⟩
theorem OwnU.nb {w w':World} {v:Value} {l:List Nat} (h:OwnU w v l) (hb:Nb w w'):OwnU w' v l:=h.keep (F:=fun _=>False) (Kp.ofNb hb) (by simp)
theorem OwnU.lt {w:World} {v:Value} {l:List Nat} (h:OwnU w v l) {g:Nat} (hg:v.ownBlock=some g):g < w.heap.size:=(World.ownsRow.lt h g hg).2
theorem OwnU.shape {w:World} {v:Value} {l:List Nat} (h:OwnU w v l):∃ a c,v = .slice a l.length c/\(0 < l.length->∃ g,a=some ⟨g,0,none⟩)/\l.length<=c/\c<=maxLen:=by
 rcases h.2 with ⟨rfl,h2⟩ | ⟨g,cap,cur,rfl,hb,hg,hn,hc,r⟩
 ·exact⟨none,0,by rw[h2],fun h=>by omega,by omega,by simp[maxLen]⟩
 ·exact⟨_,cap,rfl,fun _=>⟨g,rfl⟩,hn,hc⟩
theorem OwnU.cell {w:World} {g n cap:Nat} {l:List Nat} (h:OwnU w (.slice (some ⟨g,0,none⟩) n cap) l) (k:Nat) (hk:k < l.length):w.cell? ⟨g,k,none⟩=some (.int .u64 ((l.getD k 0:Nat):Int)):=by
 have hc:=World.ownsRow.cells h (g:=g) rfl k (.int .u64 ((l.getD k 0:Nat):Int)) (by simp[List.getD,hk])
 rwa[Addr.add_lit,Nat.zero_add] at hc
theorem OwnU.frozen {w:World} {v:Value} {l:List Nat} (h:OwnU w v l) {g:Nat} (hg:v.ownBlock=some g) (j:Nat):w.frozen? ⟨g,j,none⟩=false:=by
 rcases h.2 with ⟨rfl,h2⟩ | ⟨g',cap,cur,rfl,hb,hh,r⟩
 ·simp[Value.ownBlock] at hg
 ·simp[Value.ownBlock] at hg
  subst hg
  simp[World.frozen?,hh]
theorem OwnU.set {w:World} {g n cap:Nat} {l:List Nat} (h:OwnU w (.slice (some ⟨g,0,none⟩) n cap) l) (j:Nat) (hj:j < l.length) (y:Nat):OwnU (w.setCell ⟨g,j,none⟩ (.int .u64 (y:Int))) (.slice (some ⟨g,0,none⟩) n cap) (l.set j y):=by
 obtain⟨h1,h2⟩:=h
 refine⟨by simp,?_⟩
 rcases h2 with ⟨h2,_⟩ | ⟨g',cap',cur,hv,hb,hh,hn,hm,hs,ht⟩
 ·cases h2
 ·simp only[Value.slice.injEq,Option.some.injEq,Addr.mk.injEq,and_true] at hv
  obtain⟨rfl,rfl,rfl⟩:=hv
  refine .inr ⟨g,cap,cur.setIfInBounds j (.int .u64 (y:Int)),by simp,hb,by simp[World.setCell,Array.getElem?_modify,hh],by simpa using hn,hm,by simpa using hs,?_⟩
  rw[Nat.mul_one] at ht
  rw[List.length_set,Nat.mul_one,Array.toList_setIfInBounds,List.take_set,ht,List.map_set]
theorem wpList_appU (w:World) {ops:Array Oper} {rest:List Oper} {o:Oper} {a:Act} {Q:Exit->Act->World->Prop}
    (hg:o.guard=none) (s x:Operand) (hop:o.op=Op.call { callee:=Callee.builtin Builtin.append,args:=#[s,x],argTypes:=#[51,51] })
    (v:Value) (l:List Nat) (hs:a.eval s=v) (hown:OwnU w v l)
    (b:Nat) (y:Nat) (hx:a.eval x = .slice (some ⟨b,0,none⟩) 1 1) (hb:w.cell? ⟨b,0,none⟩=some (.int .u64 (y:Int)))
    (b1:l.length+1<=17592186044416)
    (hK:∀ v' w',OwnU w' v' (l++[y])->Kp (fun k=>v.ownBlock=some k) w w'->(∀ g,v'.ownBlock=some g->v.ownBlock=some g\/w.heap.size<=g)->wpList Tryd.prog ops Q rest (a.put o.dst v') w') :
    wpList Tryd.prog ops Q (o::rest) a w:=by
 obtain⟨i0,hi,hz0,hz1,hz2⟩:=info_parts infoU
 refine wpList_app w hg s x 51 hop 46 i0 (.int .u64 0) 1 8 Tryd.underlying51 hi hz0 hz1 hz2 rfl (by decide) v l.length _ hs hown (some ⟨b,0,none⟩) 1 1 [.int .u64 (y:Int)] hx rfl (fun h=>by cases h) ?_ ?_ (by unfold maxLen;omega) (by omega) ?_
 ·intro ad had j u hu
  obtain rfl:=Option.some.inj had
  cases j with
  | zero=>simp at hu;subst hu;simpa [Addr.add] using hb
  | succ j=>simp at hu
 ·intro u hu
  simp at hu
  subst hu
  rfl
 ·intro v' w' ho hgr hbl
  exact hK v' w' (by simpa [OwnU] using ho) (Kp.grown hgr (fun k hk=>hk)) hbl
def lenS:Value->Nat
 | .slice _ n _=>n
 | _=>0
def AnsN (w:World) (l:List Nat) (er:Nat) (e:Ending) (w':World):Prop:=∃ v,e = .returned (.tuple #[v,.int .i64 (er:Nat)])/\OwnN w' v l/\∀ g,v.ownBlock=some g->w.heap.size<=g
end Go.Proofs.YtkofdbccdfpllaaDoor
