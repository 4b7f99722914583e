
/- What BusMay asks: a load at any place; what the events of a step say. Condition: the tables hold what the program's text lays there. -/
import Derived.Test.YtkjjfnmeogpdbaaGreatDoorGy
import Derived.Test.YtkjjfnmeogpdbaaGreatDoorGv
namespace Go.Proofs.YtkjjfnmeogpdbaaGreatDoor
set_option linter.unusedVariables false
set_option linter.unusedSimpArgs false
open Go.RowKit
theorem load_x(n:Nd)(f:Hd)(l:List Nat):(n.load f l).x=n.x:=by
 unfold Nd.load
 split<;>rfl
theorem set_get(ns:List Nd)(i:Nat)(m:Nd){j:Nat}(hj:j < ns.length):(ns.set i m).getD j dN=if i=j then m else ns.getD j dN:=by
 by_cases hij:i=j
 ·subst hij
  rw[if_pos rfl]
  simp[List.getD,hj]
 ·rw[if_neg hij]
  simp[List.getD,List.getElem?_set_ne hij]
theorem BusX.loadAny {w w':World} {v:Value} {ns:List Nd} {line:List Nat} {X:Nat->Prop} (i:Int) (f:Hd) (a:Option Addr) (cap:Nat) (l:List Nat) (h:BusX w w' v ns line X) (hO:AllOk ns) (hB:z0F w') (hbs:Bs w' a cap l) (hn:a=none->cap=0) (hW:WdX f) :
    Calls Tryz.prog 17 #[v,.int .i64 i,.agg (f.cs (.slice a l.length cap))] w' fun e w2=>∃(u:Nat) (G:Nat->Prop) (ms:List Nd),e = .returned (.int .i64 (u:Nat))/\Kp G w' w2/\(∀k,X k->¬G k)/\BusX w w2 v ms line X/\ms.length=ns.length/\AllOk ms/\∀T,AllX T ns->AllX T ms:=by
 by_cases hi:0<=i/\i < ns.length
 ·obtain⟨i,rfl⟩:=Int.eq_ofNat_of_zero_le hi.1
  have hil:i < ns.length:=by omega
  refine(h.load i f a cap l hO hB hil hbs hn hW).mono ?_
  rintro e w2 ⟨G,rfl,g1,g2,g3⟩
  refine⟨_,G,_,rfl,g1,g2,g3,by simp,fun j hj => ?_,fun T hT j hj => ?_⟩
  all_goals rw[List.length_set]at hj
  all_goals rw[set_get _ _ _ hj]
  ·split
   ·exact zdl (hO i hil) hW hbs.hbyte (fun hp=>((hO i hil).p2 hp).1)
   ·exact hO j hj
  ·split
   ·rw[load_x]
    exact hT i hil
   ·exact hT j hj
 ·have h':=h
  obtain⟨F,h1,_⟩:=h'
  refine(loadB_none v ns line F i f _ w' h1 (by omega)).mono ?_
  rintro e w2 ⟨rfl,n2⟩
  exact⟨9,fun _=>False,ns,rfl,Kp.ofNb n2,fun _ _ q=>q,BusX.keep h n2,rfl,hO,fun _ hT=>hT⟩
theorem AllX.next{T:Nat}{ns:List Nd}(h:AllX T ns)(t:Nat):AllX (T+1) (nextT ns t):=fun j hj=>by
 rw[nextT_len]at hj
 rw[nextT_get _ _ hj]
 have:=zhA (ns.getD j dN) (smpB (busV ns) t j)
 have:=h j hj
 omega
theorem AllX.up{T U:Nat}{ns:List Nd}(h:AllX T ns)(hu:T<=U):AllX U ns:=fun j hj=>Nat.le_trans (h j hj) hu
theorem may_at {ns:List Nd} (hO:AllOk ns) (t:Nat) {j:Nat} (hj:j < ns.length) :
    (((evsT ns t).getD j z0W).k=2->0 < ((evsT ns t).getD j z0W).f.K/\okF ((evsT ns t).getD j z0W).f ((evsT ns t).getD j z0W).l=true/\((nextT ns t).getD j dN).ph=4) /\
    (((evsT ns t).getD j z0W).k=1->0 < ((evsT ns t).getD j z0W).f.K/\okF ((evsT ns t).getD j z0W).f ((evsT ns t).getD j z0W).l=true/\((nextT ns t).getD j dN).ph=8) /\
    (((evsT ns t).getD j z0W).k≠1->((evsT ns t).getD j z0W).k≠2->((evsT ns t).getD j z0W).f.K=0):=by
 rw[evsT_get ns t hj,nextT_get ns t hj]
 obtain⟨h1,h2⟩:=may_ev (hO j hj) (smpB_le (t:=t) (j:=j) (busV_le ns))
 obtain⟨e1,e2,_⟩:=ev_step (ns.getD j dN) (smpB (busV ns) t j)
 exact⟨fun e=>⟨(h1 (.inl e)).1,(h1 (.inl e)).2,e1 e⟩,fun e=>⟨(h1 (.inr e)).1,(h1 (.inr e)).2,e2 e⟩,h2⟩
theorem new_all(kns:List Bool):AllOk (kns.map Nd.new)/\AllX 0 (kns.map Nd.new):=by
 have e:∀j,j < (kns.map Nd.new).length->(kns.map Nd.new).getD j dN=Nd.new (kns.getD j false):=fun j hj=>by
  rw[List.length_map]at hj
  simp[List.getD,hj]
 exact⟨fun j hj=>by rw[e j hj];exact zfu _,fun j hj=>by rw[e j hj];exact Nat.le_refl _⟩
end Go.Proofs.YtkjjfnmeogpdbaaGreatDoor
