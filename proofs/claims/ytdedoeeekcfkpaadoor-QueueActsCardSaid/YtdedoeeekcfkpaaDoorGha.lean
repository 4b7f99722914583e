/- Things in a heap by their keys: lists, whatever they are; one goes down, one goes up. No program here. No conditions. Rows of what waits in a heap, in memory: appended to, read, stored into. No conditions. Package cmp: Compare and Or of whole numbers. No conditions. What waits in a heap, in memory: how many, which of two is ahead. No conditions. Who waits, in a heap and in order: the first one, who is taken out, all. Lists; no program here. No conditions. -/
import Derived.Test.YtdedoeeekcfkpaaDoorGor
import Derived.Test.YtdedoeeekcfkpaaDoorGqa
import Derived.Deep.MidRow
import Derived.Test.YtdedoeeekcfkpaaDoorGa
import Derived.BigRegion
import Derived.Deep.RegionHeld3
import Derived.Sort.Grow
set_option maxHeartbeats 1600000
set_option maxRecDepth 100000
namespace Go.Proofs.YtdedoeeekcfkpaaDoor
set_option linter.unusedVariables false
set_option linter.unusedSimpArgs false
open Go.RowKit
def gsw {α:Type} (d:α) (l:List α) (i j:Nat):List α:=(l.set i (l.getD j d)).set j (l.getD i d)
theorem gsw_len {α:Type} (d:α) (l:List α) (i j:Nat):(gsw d l i j).length=l.length:=by simp[gsw]
theorem gsw_get {α:Type} (d:α) (l:List α) {i j:Nat} (hi:i < l.length) (hj:j < l.length) (k:Nat) :
    (gsw d l i j).getD k d=if k=j then l.getD i d else if k=i then l.getD j d else l.getD k d:=by
 unfold gsw
 generalize l.getD j d=u
 generalize l.getD i d=v
 by_cases h1:k=j
 ·subst h1
  simp[List.getD,hj]
 ·rw[if_neg h1,List.getD,List.getElem?_set_ne (Ne.symm h1)]
  by_cases h2:k=i
  ·subst h2
   simp[hi]
  ·rw[if_neg h2,List.getElem?_set_ne (Ne.symm h2)];rfl
theorem gsw_perm {α:Type} (d:α) (l:List α) {i j:Nat} (hi:i < l.length) (hj:j < l.length):(gsw d l i j).Perm l:=by
 have e1:l.getD j d=l[j]:=by simp[List.getD,hj]
 have e2:l.getD i d=l[i]:=by simp[List.getD,hi]
 unfold gsw
 rw[e1,e2]
 exact List.set_set_perm hi hj
theorem gget_ext {α:Type} (d:α) {l m:List α} (hl:l.length=m.length) (h:∀ k,k < l.length->l.getD k d=m.getD k d):l=m:=by
 apply List.ext_getElem hl
 intro k h1 h2
 have:=h k h1
 simpa [List.getD,h1,h2] using this
section
variable {α:Type} (d:α) (kp:α->Nat × Nat)
def leG (x y:α):Prop:=leP (kp x) (kp y)
def ahG (x y:α):Bool:=ahB (kp x) (kp y)
def HeQ (Q:Nat->Prop) (l:List α) (n:Nat):Prop:=∀ c,0 < c->c < n->Q c->leG kp (l.getD ((c - 1) / 2) d) (l.getD c d)
abbrev allQ:Nat->Prop:=fun _=>True
theorem HeQ.min {l:List α} {n:Nat} (h:HeQ d kp allQ l n):∀ c,c < n->leG kp (l.getD 0 d) (l.getD c d):=by
 intro c
 induction c using Nat.strongRecOn with
 | _ c ih =>
   intro hc
   by_cases h0:c=0
   ·subst h0;exact leP_refl _
   ·exact leP_trans (ih ((c - 1) / 2) (by omega) (by omega)) (h c (by omega) hc trivial)
theorem HeQ.less {Q:Nat->Prop} {l:List α} {n m:Nat} (h:HeQ d kp Q l n) (hm:m<=n):HeQ d kp Q l m:=fun c h1 h2 h3=>h c h1 (by omega) h3
theorem HeQ.congr {Q:Nat->Prop} {l l':List α} {n:Nat} (h:HeQ d kp Q l n) (he:∀ k,k < n->l'.getD k d=l.getD k d):HeQ d kp Q l' n:=fun c h1 h2 h3=>by
 rw[he _ (by omega),he c h2]
 exact h c h1 h2 h3
structure DnG (Q:Nat->Prop) (l0 l:List α) (n i0 i:Nat):Prop where
 len:l.length=l0.length
 perm:l.Perm l0
 rest:∀ k,n<=k->l.getD k d=l0.getD k d
 low:∀ k,k < i0->l.getD k d=l0.getD k d
 stay:i=i0->l=l0
 top:i0 < i->leG kp (l.getD i0 d) (l0.getD i0 d)/\∃ c,0 < c/\c < n/\(c - 1) / 2=i0/\l.getD i0 d=l0.getD c d
 heap:∀ c,0 < c->c < n->Q c->(c - 1) / 2≠i->leG kp (l.getD ((c - 1) / 2) d) (l.getD c d)
 over:i0 < i->∀ c,0 < c->c < n->(c - 1) / 2=i->leG kp (l.getD ((i - 1) / 2) d) (l.getD c d)
 from0:i0<=i
 par:i0 < i->i0<=(i - 1) / 2
theorem DnG.start {Q:Nat->Prop} {l:List α} {n i0:Nat} (h:∀ c,0 < c->c < n->Q c->(c - 1) / 2≠i0->leG kp (l.getD ((c - 1) / 2) d) (l.getD c d)):DnG d kp Q l l n i0 i0 :=
 ⟨rfl,List.Perm.refl _,fun _ _=>rfl,fun _ _=>rfl,fun _=>rfl,fun h=>by omega,h,fun h=>by omega,Nat.le_refl _,fun h=>by omega⟩
def kidG (l:List α) (n i:Nat):Nat:=if 2*i+2 < n/\ahG kp (l.getD (2*i+2) d) (l.getD (2*i+1) d)=true then 2*i+2 else 2*i+1
theorem kidG_or (l:List α) (n i:Nat):(kidG d kp l n i=2*i+1\/kidG d kp l n i=2*i+2/\2*i+2 < n):=by
 unfold kidG
 split
 ·rename_i h;exact .inr ⟨rfl,h.1⟩
 ·exact .inl rfl
theorem kidG_min {l:List α} {n i c:Nat} (h0:0 < c) (hc:c < n) (hp:(c - 1) / 2=i):leG kp (l.getD (kidG d kp l n i) d) (l.getD c d):=by
 have:c=2*i+1\/c=2*i+2:=by omega
 unfold kidG
 split
 ·rename_i h
  rcases this with rfl | rfl
  ·exact leP_not ((ahB_iff _ _).1 h.2)
  ·exact leP_refl _
 ·rename_i h
  rcases this with rfl | rfl
  ·exact leP_refl _
  ·by_cases hb:ahG kp (l.getD (2*i+2) d) (l.getD (2*i+1) d)=true
   ·exact absurd ⟨hc,hb⟩ h
   ·have:=mt (ahB_iff _ _).2 hb
    show leP _ _
    exact Decidable.not_not.1 this
theorem DnG.stop1 {Q:Nat->Prop} {l0 l:List α} {n i0 i:Nat} (h:DnG d kp Q l0 l n i0 i) (hn:n<=2*i+1):HeQ d kp Q l n:=fun c h1 h2 h3=>h.heap c h1 h2 h3 (by omega)
theorem DnG.stop2 {Q:Nat->Prop} {l0 l:List α} {n i0 i:Nat} (h:DnG d kp Q l0 l n i0 i) (hk:ahG kp (l.getD (kidG d kp l n i) d) (l.getD i d)=false):HeQ d kp Q l n:=fun c h1 h2 h3=>by
 by_cases hc:(c - 1) / 2=i
 ·rw[hc]
  have h4:leG kp (l.getD i d) (l.getD (kidG d kp l n i) d):=by
   have:=mt (ahB_iff (kp (l.getD (kidG d kp l n i) d)) (kp (l.getD i d))).2 (by unfold ahG at hk;rw[hk];simp)
   show leP _ _
   exact Decidable.not_not.1 this
  exact leP_trans h4 (kidG_min d kp h1 h2 hc)
 ·exact h.heap c h1 h2 h3 hc
theorem DnG.step {Q:Nat->Prop} {l0 l:List α} {n i0 i:Nat} (h:DnG d kp Q l0 l n i0 i) (hq:¬Q i0\/i0=0) (hq2:∀ c,i0<=(c - 1) / 2->0 < c->Q c) (hn:2*i+1 < n) (hl:n<=l.length) (hk:ahG kp (l.getD (kidG d kp l n i) d) (l.getD i d)=true) :
    DnG d kp Q l0 (gsw d l i (kidG d kp l n i)) n i0 (kidG d kp l n i):=by
 have hj:=kidG_or d kp l n i
 have hm:=fun c h0 hc hp=>kidG_min d kp (l:=l) (n:=n) (i:=i) (c:=c) h0 hc hp
 generalize hkk:kidG d kp l n i=j at *
 have hle:leG kp (l.getD j d) (l.getD i d):=leP_not ((ahB_iff _ _).1 hk)
 have hi:i < l.length:=by omega
 have hjl:j < l.length:=by omega
 have g:=gsw_get d l hi hjl
 have f0:=h.from0
 refine⟨by rw[gsw_len,h.len],(gsw_perm d l hi hjl).trans h.perm,fun k hk => ?_,fun k hk => ?_,fun e=>by omega,fun _ => ?_,fun c h1 h2 h3 h4 => ?_,fun h0 c h1 h2 h3 => ?_,by omega,fun _=>by omega⟩
 ·rw[g,if_neg (by omega),if_neg (by omega)]
  exact h.rest k hk
 ·rw[g,if_neg (by omega),if_neg (by omega)]
  exact h.low k hk
 ·by_cases e:i=i0
  ·have hs:=h.stay e
   rw[g,if_neg (by omega),if_pos e.symm]
   refine⟨by rw[<- hs,<- e];exact hle,j,by omega,by omega,by omega,by rw[hs]⟩
  ·rw[g,if_neg (by omega),if_neg (fun q=>e q.symm)]
   exact h.top (by omega)
 ·by_cases hp:(c - 1) / 2=i
  ·rw[hp,g,if_neg (by omega),if_pos rfl,g]
   by_cases hcj:c=j
   ·rw[if_pos hcj];exact hle
   ·rw[if_neg hcj,if_neg (by omega)]
    exact hm c h1 h2 hp
  ·have hcj:c≠j:=by omega
   rw[g,if_neg h4,if_neg hp,g,if_neg hcj]
   by_cases hci:c=i
   ·subst hci
    rw[if_pos rfl]
    refine h.over ?_ j (by omega) (by omega) (by omega)
    rcases hq with hq | hq
    ·have:c≠i0:=fun e=>hq (e ▸ h3)
     omega
    ·omega
   ·rw[if_neg hci]
    exact h.heap c h1 h2 h3 hp
 ·have e:(j - 1) / 2=i:=by omega
  rw[e,g,if_neg (by omega),if_pos rfl,g,if_neg (by omega),if_neg (by omega)]
  have:=h.heap c h1 h2 (hq2 c (by omega) h1) (by omega)
  rwa[h3] at this
theorem DnG.head {Q:Nat->Prop} {l0 l:List α} {n i0 i:Nat} (h:DnG d kp Q l0 l n i0 i) (hn:n<=l0.length):(l.take n).Perm (l0.take n):=by
 have e:l.drop n=l0.drop n:=by
  apply gget_ext d (by simp[h.len])
  intro k _
  have:=h.rest (n+k) (by omega)
  simpa [List.getD,List.getElem?_drop] using this
 have hp:=h.perm
 rw[<- List.take_append_drop n l,<- List.take_append_drop n l0,e] at hp
 exact (List.perm_append_right_iff _).1 hp
structure UpG (l0 l:List α) (n j:Nat):Prop where
 len:l.length=l0.length
 perm:l.Perm l0
 rest:∀ k,n<=k->l.getD k d=l0.getD k d
 heap:∀ c,0 < c->c < n->c≠j->leG kp (l.getD ((c - 1) / 2) d) (l.getD c d)
 over:0 < j->∀ c,0 < c->c < n->(c - 1) / 2=j->leG kp (l.getD ((j - 1) / 2) d) (l.getD c d)
theorem UpG.stop0 {l0 l:List α} {n:Nat} (h:UpG d kp l0 l n 0):HeQ d kp allQ l n:=fun c h1 h2 _=>h.heap c h1 h2 (by omega)
theorem UpG.stop {l0 l:List α} {n j:Nat} (h:UpG d kp l0 l n j) (hk:ahG kp (l.getD j d) (l.getD ((j - 1) / 2) d)=false):HeQ d kp allQ l n:=fun c h1 h2 _=>by
 by_cases hc:c=j
 ·subst hc
  have:=mt (ahB_iff (kp (l.getD c d)) (kp (l.getD ((c - 1) / 2) d))).2 (by unfold ahG at hk;rw[hk];simp)
  show leP _ _
  exact Decidable.not_not.1 this
 ·exact h.heap c h1 h2 hc
theorem UpG.step {l0 l:List α} {n j:Nat} (h:UpG d kp l0 l n j) (h0:0 < j) (hj:j < n) (hl:n<=l.length) (hk:ahG kp (l.getD j d) (l.getD ((j - 1) / 2) d)=true) :
    UpG d kp l0 (gsw d l ((j - 1) / 2) j) n ((j - 1) / 2):=by
 have hle:leG kp (l.getD j d) (l.getD ((j - 1) / 2) d):=leP_not ((ahB_iff _ _).1 hk)
 generalize hi:(j - 1) / 2=i at *
 have g:=gsw_get d l (i:=i) (j:=j) (by omega) (by omega)
 refine⟨by rw[gsw_len,h.len],(gsw_perm d l (by omega) (by omega)).trans h.perm,fun k hk => ?_,fun c h1 h2 h3 => ?_,fun hi0 c h1 h2 h3 => ?_⟩
 ·rw[g,if_neg (by omega),if_neg (by omega)]
  exact h.rest k hk
 ·by_cases hcj:c=j
  ·subst hcj
   rw[hi,g,if_neg (by omega),if_pos rfl,g,if_pos rfl]
   exact hle
  ·rw[g c,if_neg hcj,if_neg h3]
   by_cases hpi:(c - 1) / 2=i
   ·rw[hpi,g,if_neg (by omega),if_pos rfl]
    have:=h.heap c h1 h2 hcj
    rw[hpi] at this
    exact leP_trans hle this
   ·by_cases hpj:(c - 1) / 2=j
    ·rw[hpj,g,if_pos rfl]
     have:=h.over h0 c h1 h2 hpj
     rwa[hi] at this
    ·rw[g,if_neg hpj,if_neg hpi]
     exact h.heap c h1 h2 hcj
 ·have hii:=h.heap i hi0 (by omega) (by omega)
  rw[g ((i - 1) / 2),if_neg (by omega),if_neg (by omega),g c]
  by_cases hcj:c=j
  ·rw[if_pos hcj];exact hii
  ·rw[if_neg hcj,if_neg (by omega)]
   have:=h.heap c h1 h2 hcj
   rw[h3] at this
   exact leP_trans hii this
theorem UpG.start {l:List α} {n j:Nat} (h:∀ c,0 < c->c < n->c≠j->leG kp (l.getD ((c - 1) / 2) d) (l.getD c d)) (ho:0 < j->∀ c,0 < c->c < n->(c - 1) / 2=j->leG kp (l.getD ((j - 1) / 2) d) (l.getD c d)):UpG d kp l l n j :=
 ⟨rfl,List.Perm.refl _,fun _ _=>rfl,h,ho⟩
theorem UpG.push {l:List α} (x:α) (h:HeQ d kp allQ l l.length):UpG d kp (l++[x]) (l++[x]) (l.length+1) l.length:=by
 have e:∀ k,k < l.length->(l++[x]).getD k d=l.getD k d:=fun k hk=>by
  show ((l++[x])[k]?).getD d=(l[k]?).getD d
  rw[List.getElem?_append_left hk]
 refine UpG.start d kp (fun c h1 h2 h3 => ?_) (fun _ c h1 h2 h3=>by omega)
 rw[e _ (by omega),e c (by omega)]
 exact h c h1 (by omega) trivial
theorem gsw_rem {l:List α} {n i:Nat} (h:HeQ d kp allQ l l.length) (hl:l.length=n+1) (hi:i < n) :
    (∀ c,0 < c->c < n->c≠i->(c - 1) / 2≠i->leG kp ((gsw d l i n).getD ((c - 1) / 2) d) ((gsw d l i n).getD c d)) /\
    (0 < i->∀ c,0 < c->c < n->(c - 1) / 2=i->leG kp ((gsw d l i n).getD ((i - 1) / 2) d) ((gsw d l i n).getD c d)):=by
 have g:=gsw_get d l (i:=i) (j:=n) (by omega) (by omega)
 refine⟨fun c h1 h2 h3 h4 => ?_,fun h0 c h1 h2 h3 => ?_⟩
 ·rw[g,if_neg (by omega),if_neg h4,g,if_neg (by omega),if_neg h3]
  exact h c h1 (by omega) trivial
 ·rw[g,if_neg (by omega),if_neg (by omega),g,if_neg (by omega),if_neg (by omega)]
  have a:=h i h0 (by omega) trivial
  have b:=h c h1 (by omega) trivial
  rw[h3] at b
  exact leP_trans a b
theorem rem_down {l0 l:List α} {n i:Nat} (h:HeQ d kp (fun c=>c≠i) l n) (hlow:∀ k,k < i->l.getD k d=l0.getD k d) (ht:∃ c,0 < c/\c < n/\(c - 1) / 2=i/\l.getD i d=l0.getD c d)
    (ho:0 < i->∀ c,0 < c->c < n->(c - 1) / 2=i->leG kp (l0.getD ((i - 1) / 2) d) (l0.getD c d)):HeQ d kp allQ l n:=fun c h1 h2 _=>by
 by_cases hc:c=i
 ·subst hc
  obtain⟨c',a1,a2,a3,a4⟩:=ht
  rw[a4,hlow _ (by omega)]
  exact ho h1 c' a1 a2 a3
 ·exact h c h1 h2 hc
theorem rem_up {l:List α} {n i:Nat} (h:HeQ d kp (fun c=>c≠i) l n) (ho:0 < i->∀ c,0 < c->c < n->(c - 1) / 2=i->leG kp (l.getD ((i - 1) / 2) d) (l.getD c d)):UpG d kp l l n i :=
 UpG.start d kp (fun c h1 h2 h3=>h c h1 h2 h3) ho
theorem glast_of {l:List α} {n:Nat} (h:l.length=n+1):l=l.take n++[l.getD n d]:=by
 have e:=List.take_append_drop n l
 have e2:l.drop n=[l.getD n d]:=by
  rw[List.drop_eq_getElem_cons (by omega),List.drop_eq_nil_of_le (by omega)]
  simp[List.getD,show n < l.length by omega]
 rw[e2] at e
 exact e.symm
theorem gtake_heap {l:List α} {n:Nat} (h:HeQ d kp allQ l n) (hl:n<=l.length):HeQ d kp allQ (l.take n) (l.take n).length:=by
 rw[List.length_take,Nat.min_eq_left hl]
 exact h.congr d kp (fun k hk=>by simp[List.getD,hk])
end
end Go.Proofs.YtdedoeeekcfkpaaDoor
namespace Go.Proofs.YtdedoeeekcfkpaaDoor
set_option linter.unusedVariables false
set_option linter.unusedSimpArgs false
open Go.RowKit
def enC (p:It × Value):List Value := .int .u64 (keyF p.1.f:Nat)::itC p.1 p.2
def kpE (p:It × Value):Nat × Nat:=(keyF p.1.f,p.1.no)
theorem enC_one (p:It × Value) (u:Value) (hu:u∈enC p) (h:p.2.oneCell'=true):u.oneCell'=true:=by
 obtain⟨⟨k,⟨K,I,X,R,B,E,S,D,V,A⟩,ll⟩,pv⟩:=p
 simp[enC,itC] at hu
 rcases hu with rfl | rfl | rfl | rfl | rfl | rfl | rfl | rfl | rfl | rfl | rfl | rfl | rfl<;>first | rfl | exact h
theorem enC_len (p:It × Value):(enC p).length=13:=rfl
def cellsE (l:List (It × Value)):List Value:=l.flatMap enC
theorem cellsE_len (l:List (It × Value)):(cellsE l).length=l.length*13:=by
 induction l with
 | nil=>rfl
 | cons p l ih =>
   show (enC p++cellsE l).length=_
   rw[List.length_append,enC_len,ih,List.length_cons]
   omega
theorem cellsE_app (l m:List (It × Value)):cellsE (l++m)=cellsE l++cellsE m:=by simp[cellsE]
theorem cellsE_get (l:List (It × Value)):∀ j,j < l.length->∀ i,i < 13->(cellsE l)[j*13+i]? = (enC (l.getD j dR))[i]? := by
 induction l with
 | nil=>intro j h;simp at h
 | cons p l ih =>
   intro j h i hi
   have e:cellsE (p::l)=enC p++cellsE l:=rfl
   rw[e]
   cases j with
   | zero =>
     rw[List.getElem?_append_left (by rw[enC_len];omega),Nat.zero_mul,Nat.zero_add]
     rfl
   | succ j =>
     rw[List.getElem?_append_right (by rw[enC_len];omega),enC_len,show (j+1)*13+i - 13=j*13+i by omega]
     exact ih j (by simpa using h) i hi
theorem cellsE_one (l:List (It × Value)) (u:Value) (hu:u∈cellsE l) (h:∀ p∈l,p.2.oneCell'=true):u.oneCell'=true:=by
 obtain⟨p,hp,hm⟩:=List.mem_flatMap.1 hu
 exact enC_one p u hm (h p hp)
theorem infoHE:(Tryd.prog.info? 79).map (fun i=>(i.zero,i.size,i.bytes))=some (some (.agg #[.int .u64 0,.int .i64 0,.int .i64 0,.int .u32 0,.bool false,.bool false,.bool false,.bool false,.bool false,.int .u8 0,.int .u8 0,.int .u32 0,.slice none 0 0]),13,64):=by kernel_rfl
def OwnE (w:World) (v:Value) (l:List (It × Value)):Prop:=w.ownsRow 0 79 13 v l.length (cellsE l)
theorem OwnE.nil (w:World):OwnE w (.slice none 0 0) []:=World.ownsRow_nil _ _ _ _
theorem OwnE.keep {F:Nat->Prop} {w w':World} {v:Value} {l:List (It × Value)} (h:OwnE w v l) (hk:Kp F w w') (hn:∀ g,v.ownBlock=some g->¬F g):OwnE w' v l:=by
 obtain⟨h1,h2⟩:=h
 refine⟨h1,?_⟩
 rcases h2 with h2 | ⟨g,cap,cur,rfl,hb,hg,r⟩
 ·exact .inl h2
 ·exact .inr ⟨g,cap,cur,rfl,hb,(hk.block g (Array.getElem?_eq_some_iff.1 hg).1 (hn g rfl)).trans hg,r⟩
theorem OwnE.nb {w w':World} {v:Value} {l:List (It × Value)} (h:OwnE w v l) (hb:Nb w w'):OwnE w' v l:=h.keep (F:=fun _=>False) (Kp.ofNb hb) (by simp)
theorem OwnE.lt {w:World} {v:Value} {l:List (It × Value)} (h:OwnE w v l) {g:Nat} (hg:v.ownBlock=some g):g < w.heap.size:=(World.ownsRow.lt h g hg).2
theorem OwnE.shape {w:World} {v:Value} {l:List (It × Value)} (h:OwnE w v l):∃ a cap,v = .slice a l.length cap/\(0 < l.length->∃ g,a=some ⟨g,0,none⟩)/\l.length<=cap/\cap<=maxLen:=by
 rcases h.2 with ⟨rfl,h2⟩ | ⟨g,cap,cur,rfl,hb,hg,hn,hc,r⟩
 ·exact⟨none,0,by rw[h2],fun h=>by omega,by omega,by simp[maxLen]⟩
 ·exact⟨_,cap,rfl,fun _=>⟨g,rfl⟩,hn,hc⟩
theorem wpList_appHE (w:World) {ops:Array Oper} {rest:List Oper} {o:Oper} {a:Act} {Q:Exit->Act->World->Prop}
    (hg:o.guard=none) (s x:Operand) (hop:o.op=Op.call { callee:=Callee.builtin Builtin.append,args:=#[s,x],argTypes:=#[70,70] })
    (v:Value) (l:List (It × Value)) (hs:a.eval s=v) (hown:OwnE w v l)
    (b:Nat) (e:It × Value) (hx:a.eval x = .slice (some ⟨b,0,none⟩) 1 1) (hc:∀ j u,(enC e)[j]? = some u->w.cell? ⟨b,j,none⟩=some u) (h1:e.2.oneCell'=true) (b1:l.length+1<=1000000)
    (hK:∀ v' w',OwnE w' v' (l++[e])->Kp (fun k=>v.ownBlock=some k) w w'->(∀ g,v'.ownBlock=some g->v.ownBlock=some g\/w.heap.size<=g)->wpList Tryd.prog ops Q rest (a.put o.dst v') w') :
    wpList Tryd.prog ops Q (o::rest) a w:=by
 obtain⟨i0,hi,hz0,hz1,hz2⟩:=info_parts infoHE
 refine wpList_app w hg s x 70 hop 79 i0 (.agg #[.int .u64 0,.int .i64 0,.int .i64 0,.int .u32 0,.bool false,.bool false,.bool false,.bool false,.bool false,.int .u8 0,.int .u8 0,.int .u32 0,.slice none 0 0]) 13 64 Tryd.underlying70 hi hz0 hz1 hz2 rfl (by decide) v l.length _ hs hown (some ⟨b,0,none⟩) 1 1 (cellsE [e]) hx (cellsE_len [e]) (fun h=>by cases h) (fun ad had j u hu => ?_) ?_ (by unfold maxLen;omega) (by omega) ?_
 ·obtain rfl:=Option.some.inj had
  rw[Addr.add_lit,Nat.zero_add]
  exact hc j u (by simpa [cellsE] using hu)
 ·exact fun u hu=>cellsE_one [e] u hu (fun p hp=>by rw[List.mem_singleton.1 hp];exact h1)
 ·intro v' w' ho hgr hbl
  exact hK v' w' (by simpa [OwnE,cellsE_app] using ho) (Kp.grown hgr (fun k hk=>hk)) hbl
def RwE (w:World) (g cap:Nat) (l:List (It × Value)):Prop:=∃ cs,Blk w g cs 79/\cs.size=cap*13/\l.length<=cap/\cap<=maxLen/\∀ j,j < l.length->∀ i,i < 13->cs[j*13+i]? = (enC (l.getD j dR))[i]?
theorem OwnE.rw {w:World} {g n cap:Nat} {l:List (It × Value)} (h:OwnE w (.slice (some ⟨g,0,none⟩) n cap) l):n=l.length/\RwE w g cap l:=by
 rcases h.2 with ⟨h0,h2⟩ | ⟨g',cap',cur,hv,hb0,hg,hn,hc,hs,ht⟩
 ·cases h0
 ·simp only[Value.slice.injEq,Option.some.injEq,Addr.mk.injEq,and_true] at hv
  obtain⟨rfl,rfl,rfl⟩:=hv
  refine⟨rfl,cur,hg,hs,hn,hc,fun j hj i hi => ?_⟩
  rw[<- cellsE_get l j hj i hi,<- ht,List.getElem?_take_of_lt (by omega),Array.getElem?_toList]
theorem RwE.own {w:World} {g cap:Nat} {l:List (It × Value)} (h:RwE w g cap l):OwnE w (.slice (some ⟨g,0,none⟩) l.length cap) l:=by
 obtain⟨cs,hb,hs,h1,h2,hc⟩:=h
 refine⟨cellsE_len l,.inr ⟨g,cap,cs,rfl,Nat.zero_le _,hb,h1,h2,hs,?_⟩⟩
 apply List.ext_getElem?
 intro k
 by_cases hk:k < l.length*13
 ·rw[List.getElem?_take_of_lt hk,Array.getElem?_toList]
  have e:k=k / 13*13+k%13:=by omega
  rw[e,hc (k / 13) (by omega) (k%13) (by omega),cellsE_get l (k / 13) (by omega) (k%13) (by omega)]
 ·rw[List.getElem?_take_eq_none (by omega),List.getElem?_eq_none (by rw[cellsE_len];omega)]
theorem RwE.keep {F:Nat->Prop} {w w':World} {g cap:Nat} {l:List (It × Value)} (h:RwE w g cap l) (hk:Kp F w w') (hn:¬F g):RwE w' g cap l:=by
 obtain⟨cs,hb,h1⟩:=h
 exact⟨cs,hb.keep hk hn,h1⟩
theorem RwE.nb {w w':World} {g cap:Nat} {l:List (It × Value)} (h:RwE w g cap l) (hb:Nb w w'):RwE w' g cap l:=h.keep (F:=fun _=>False) (Kp.ofNb hb) (by simp)
theorem RwE.lt {w:World} {g cap:Nat} {l:List (It × Value)} (h:RwE w g cap l):g < w.heap.size:=by
 obtain⟨cs,hb,_⟩:=h
 exact hb.lt
theorem RwE.cell {w:World} {g cap:Nat} {l:List (It × Value)} (h:RwE w g cap l) {j:Nat} (hj:j < l.length) {i:Nat} {u:Value} (hu:(enC (l.getD j dR))[i]? = some u):w.cell? ⟨g,j*13+i,none⟩=some u/\w.frozen? ⟨g,j*13+i,none⟩=false:=by
 obtain⟨cs,hb,_,_,_,hc⟩:=h
 have hi:i < 13:=by
  have:=(List.getElem?_eq_some_iff.1 hu).1
  rw[enC_len] at this
  exact this
 exact⟨(hb.cell _).trans ((hc j hj i hi).trans hu),hb.frozen _⟩
theorem RwE.put {w:World} {g cap:Nat} {l:List (It × Value)} (h:RwE w g cap l) {j:Nat} (hj:j < l.length) (e:It × Value):RwE (w.setCells g (j*13) (enC e)) g cap (l.set j e):=by
 obtain⟨cs,hb,h1,h2,h3,h4⟩:=h
 obtain⟨cs',b1,b2,b3,b4⟩:=Blk.sets (enC e) (j*13) w cs hb
 rw[enC_len] at b3 b4
 refine⟨cs',b1,by rw[b2];exact h1,by rw[List.length_set];exact h2,h3,fun k hk i hi => ?_⟩
 rw[List.length_set] at hk
 by_cases hjk:j=k
 ·subst hjk
  rw[b3 i hi (by omega),show (l.set j e).getD j dR=e by simp[List.getD,hj]]
 ·rw[b4 (k*13+i) (by omega),h4 k hk i hi,show (l.set j e).getD k dR=l.getD k dR by simp[List.getD,List.getElem?_set_ne hjk]]
theorem RwE.less {w:World} {g cap:Nat} {l:List (It × Value)} (h:RwE w g cap l) (n:Nat):RwE w g cap (l.take n):=by
 obtain⟨cs,hb,h1,h2,h3,h4⟩:=h
 refine⟨cs,hb,h1,by rw[List.length_take];omega,h3,fun j hj i hi => ?_⟩
 rw[List.length_take] at hj
 rw[show (l.take n).getD j dR=l.getD j dR by simp[List.getD,show j < n by omega]]
 exact h4 j (by omega) i hi
theorem RwE.behind {w:World} {g cap n:Nat} {l:List (It × Value)} (h:RwE w g cap l) (hn:n < l.length) (vs:List Value) (hv:vs.length=13):RwE (w.setCells g (n*13) vs) g cap (l.take n):=by
 obtain⟨cs,hb,h1,h2,h3,h4⟩:=h
 obtain⟨cs',b1,b2,b3,b4⟩:=Blk.sets vs (n*13) w cs hb
 rw[hv] at b3 b4
 refine⟨cs',b1,by rw[b2];exact h1,by rw[List.length_take];omega,h3,fun j hj i hi => ?_⟩
 rw[List.length_take] at hj
 rw[b4 (j*13+i) (by omega),show (l.take n).getD j dR=l.getD j dR by simp[List.getD,show j < n by omega]]
 exact h4 j (by omega) i hi
end Go.Proofs.YtdedoeeekcfkpaaDoor
namespace Go.Proofs.YtdedoeeekcfkpaaDoor
set_option linter.unusedVariables false
set_option linter.unusedSimpArgs false
open Go.RowKit
def cmpI (m n:Int):Int:=if m < n then -1 else if n < m then 1 else 0
theorem nanU_any (m:Int) (w:World):Calls Tryd.prog 66 #[.int .u64 m] w fun e w'=>e = .returned (.bool false)/\w'=w:=by
 have h:(m != m)=false:=by simp
 go_enter Tryd.func66,Tryd.ntmps66
 go_wp2
 go_ret
 exact⟨by simp,rfl⟩
theorem cmpU_any (m n:Int) (w:World):Calls Tryd.prog 47 #[.int .u64 m,.int .u64 n] w fun e w'=>e = .returned (.int .i64 (cmpI m n))/\w'=w:=by
 unfold cmpI
 by_cases h1:m < n
 ·rw[if_pos h1]
  have d1:decide (m < n)=true:=decide_eq_true h1
  go_enter Tryd.func47,Tryd.ntmps47
  go_wp2_with (go_at_call 66;refine (nanU_any _ _).mono ?_;rintro e w1 ⟨rfl,rfl⟩)
  go_ret
  exact⟨rfl,rfl⟩
 rw[if_neg h1]
 have d1:decide (m < n)=false:=decide_eq_false h1
 by_cases h2:n < m
 ·rw[if_pos h2]
  have d2:decide (n < m)=true:=decide_eq_true h2
  clear h1
  go_enter Tryd.func47,Tryd.ntmps47
  go_wp2_with (go_at_call 66;refine (nanU_any _ _).mono ?_;rintro e w1 ⟨rfl,rfl⟩)
  go_ret
  exact⟨rfl,rfl⟩
 rw[if_neg h2]
 have d2:decide (n < m)=false:=decide_eq_false h2
 clear h1 h2
 go_enter Tryd.func47,Tryd.ntmps47
 go_wp2_with (go_at_call 66;refine (nanU_any _ _).mono ?_;rintro e w1 ⟨rfl,rfl⟩)
 go_ret
 exact⟨rfl,rfl⟩
theorem nanI_any (m:Int) (w:World):Calls Tryd.prog 70 #[.int .i64 m] w fun e w'=>e = .returned (.bool false)/\w'=w:=by
 have h:(m != m)=false:=by simp
 go_enter Tryd.func70,Tryd.ntmps70
 go_wp2
 go_ret
 exact⟨by simp,rfl⟩
theorem cmpI_any (m n:Int) (w:World):Calls Tryd.prog 53 #[.int .i64 m,.int .i64 n] w fun e w'=>e = .returned (.int .i64 (cmpI m n))/\w'=w:=by
 unfold cmpI
 by_cases h1:m < n
 ·rw[if_pos h1]
  have d1:decide (m < n)=true:=decide_eq_true h1
  go_enter Tryd.func53,Tryd.ntmps53
  go_wp2_with (go_at_call 70;refine (nanI_any _ _).mono ?_;rintro e w1 ⟨rfl,rfl⟩)
  go_ret
  exact⟨rfl,rfl⟩
 rw[if_neg h1]
 have d1:decide (m < n)=false:=decide_eq_false h1
 by_cases h2:n < m
 ·rw[if_pos h2]
  have d2:decide (n < m)=true:=decide_eq_true h2
  clear h1
  go_enter Tryd.func53,Tryd.ntmps53
  go_wp2_with (go_at_call 70;refine (nanI_any _ _).mono ?_;rintro e w1 ⟨rfl,rfl⟩)
  go_ret
  exact⟨rfl,rfl⟩
 rw[if_neg h2]
 have d2:decide (n < m)=false:=decide_eq_false h2
 clear h1 h2
 go_enter Tryd.func53,Tryd.ntmps53
 go_wp2_with (go_at_call 70;refine (nanI_any _ _).mono ?_;rintro e w1 ⟨rfl,rfl⟩)
 go_ret
 exact⟨rfl,rfl⟩
theorem or_any (g:Nat) (x y r:Int) (hr:r=if x=0 then y else x) (w:World) (h0:w.cell? ⟨g,0,none⟩=some (.int .i64 x)) (h1:w.cell? ⟨g,1,none⟩=some (.int .i64 y)) :
    Calls Tryd.prog 52 #[.slice (some ⟨g,0,none⟩) 2 2] w fun e w'=>e = .returned (.int .i64 r)/\w'=w:=by
 have HR:=Lib.hid hr
 clear hr
 go_enter Tryd.func52,Tryd.ntmps52
 go_wp2
 go_loopw [8] (fun ix wr=>(ix = .int .i64 0\/(ix = .int .i64 1/\x=0)\/(ix = .int .i64 2/\x=0/\y=0))/\wr=w) (fun ix _=>2 - (intOf ix).toNat)
 case atStart=>exact⟨.inl rfl,rfl⟩
 case round =>
  obtain⟨rfl | ⟨rfl,rfl⟩ | ⟨rfl,rfl,rfl⟩,rfl⟩:=hrel
  ·by_cases hx:x=0
   ·subst hx
    go_wp2
    go_roundw
    case rel=>simp
    case measure=>simp[intOf]
   ·have d1:(x != 0)=true:=by simp[hx]
    go_wp2
    go_ret
    exact⟨by rw[HR.out,if_neg hx];rfl,rfl⟩
  ·by_cases hy:y=0
   ·subst hy
    go_wp2
    go_roundw
    case rel=>simp
    case measure=>simp[intOf]
   ·have d1:(y != 0)=true:=by simp[hy]
    go_wp2
    go_ret
    exact⟨by rw[HR.out,if_pos trivial];rfl,rfl⟩
  ·go_wp2
   go_ret
   exact⟨by rw[HR.out,if_pos trivial];rfl,rfl⟩
theorem or_new (g:Nat) (x y r:Int) (hr:r=if x=0 then y else x) (w:World) (hg:g=w.heap.size) :
    Calls Tryd.prog 52 #[.slice (some ⟨g,0,none⟩) 2 2] (w.alloc (.cells #[.int .i64 x,.int .i64 y] 3)).drew fun e w'=>e = .returned (.int .i64 r)/\w'=(w.alloc (.cells #[.int .i64 x,.int .i64 y] 3)).drew:=by
 subst hg
 have b:=(Blk.new w #[.int .i64 x,.int .i64 y] 3).nb (Below.drew (Below.refl _ _):Nb _ (w.alloc (.cells #[.int .i64 x,.int .i64 y] 3)).drew)
 exact or_any _ x y r hr _ (b.cell 0) (b.cell 1)
end Go.Proofs.YtdedoeeekcfkpaaDoor
namespace Go.Proofs.YtdedoeeekcfkpaaDoor
set_option linter.unusedVariables false
set_option linter.unusedSimpArgs false
open Go.RowKit Go.Sort
def cmpHE:Value := .func (.func 32) #[] #[]
structure HeE (w:World) (R:Nat) (r s:Value) (v:Value) (l:List (It × Value)):Prop where
 blk:Blk w R #[r,s,v,cmpHE] 82
 own:OwnE w v l
 ne:v.ownBlock≠some R
theorem HeE.keep {F:Nat->Prop} {w w':World} {R:Nat} {r s v:Value} {l:List (It × Value)} (h:HeE w R r s v l) (hk:Kp F w w') (h1:¬F R) (h2:∀ g,v.ownBlock=some g->¬F g):HeE w' R r s v l:=⟨h.blk.keep hk h1,h.own.keep hk h2,h.ne⟩
theorem HeE.nb {w w':World} {R:Nat} {r s v:Value} {l:List (It × Value)} (h:HeE w R r s v l) (hk:Nb w w'):HeE w' R r s v l:=⟨h.blk.nb hk,h.own.nb hk,h.ne⟩
theorem HeE.row {w:World} {R:Nat} {r s v:Value} {l:List (It × Value)} (h:HeE w R r s v l) (h0:0 < l.length):∃ g cap,v = .slice (some ⟨g,0,none⟩) l.length cap/\RwE w g cap l/\g≠R/\l.length<=cap/\cap<=maxLen:=by
 obtain⟨a,cap,rfl,ha,h1,h2⟩:=h.own.shape
 obtain⟨g,rfl⟩:=ha h0
 have:=h.ne
 simp only[Value.ownBlock,ne_eq,Option.some.injEq] at this
 exact⟨g,cap,rfl,h.own.rw.2,this,h1,h2⟩
theorem hlenE_any (R:Nat) (r s:Value) (v:Value) (l:List (It × Value)) (w:World) (h:HeE w R r s v l) :
    Calls Tryd.prog 63 #[.pointer (some ⟨R,2,none⟩)] w fun e w'=>e = .returned (.int .i64 (l.length:Nat))/\w'=w:=by
 have c2:=h.blk.cell 2
 obtain⟨a,cap,rfl,_⟩:=h.own.shape
 simp only[List.getElem?_toArray,List.getElem?_cons_zero,List.getElem?_cons_succ] at c2
 clear h
 go_enter Tryd.func63,Tryd.ntmps63
 go_wp2
 go_ret
 exact⟨rfl,rfl⟩
def cmpG (p q:Nat × Nat):Int:=if cmpI p.1 q.1=0 then cmpI p.2 q.2 else cmpI p.1 q.1
theorem cmpG_lt (p q:Nat × Nat):decide (cmpG p q < 0)=ahB p q:=by
 unfold cmpG cmpI ahB
 rcases Nat.lt_trichotomy p.1 q.1 with h | h | h
 ·have h1:(p.1:Int) < (q.1:Int):=by omega
  simp[h1,h,show ¬p.1=q.1 by omega]
 ·rcases Nat.lt_trichotomy p.2 q.2 with k | k | k
  ·have k1:(p.2:Int) < (q.2:Int):=by omega
   simp[h,k1,k]
  ·simp[h,k]
  ·have k1:(q.2:Int) < (p.2:Int):=by omega
   simp[h,k1,show ¬(p.2:Int) < (q.2:Int) by omega,show ¬p.2 < q.2 by omega]
 ·have h1:(q.1:Int) < (p.1:Int):=by omega
  simp[h1,show ¬(p.1:Int) < (q.1:Int) by omega,show ¬p.1 < q.1 by omega,show ¬p.1=q.1 by omega]
theorem hcmpE_any (p q:It × Value) (w:World) :
    Calls Tryd.prog 32 #[.agg (enC p).toArray,.agg (enC q).toArray] w fun e w'=>e = .returned (.int .i64 (cmpG (kpE p) (kpE q)))/\∃ n os,w'=grow (w.drewN n) os:=by
 obtain⟨⟨xn,⟨xK,xI,xX,xR,xB,xE,xS,xD,xV,xA⟩,xl⟩,xv⟩:=p
 obtain⟨⟨yn,⟨yK,yI,yX,yR,yB,yE,yS,yD,yV,yA⟩,yl⟩,yv⟩:=q
 have C1:=fun w=>cmpU_any (keyF ⟨xK,xI,xX,xR,xB,xE,xS,xD,xV,xA⟩:Nat) (keyF ⟨yK,yI,yX,yR,yB,yE,yS,yD,yV,yA⟩:Nat) w
 have C2:=fun w=>cmpI_any (xn:Nat) (yn:Nat) w
 unfold cmpG kpE
 simp only[enC,itC]
 generalize keyF ⟨xK,xI,xX,xR,xB,xE,xS,xD,xV,xA⟩=xk at C1 ⊢
 generalize keyF ⟨yK,yI,yX,yR,yB,yE,yS,yD,yV,yA⟩=yk at C1 ⊢
 generalize cmpI (xk:Int) (yk:Int)=x at C1 ⊢
 generalize cmpI (xn:Int) (yn:Int)=y at C2 ⊢
 obtain⟨r,hr⟩:∃ r,r=if x=0 then y else x:=⟨_,rfl⟩
 have CO:=Lib.hid (fun g w=>or_new g x y r hr w)
 rw[<- hr]
 clear hr
 go_enter Tryd.func32,Tryd.ntmps32
 go_wp2_with fail
 go_region_held3 (fun w'=>w'.cell? ⟨w.heap.size,0,none⟩=some (.int .u64 (xk:Int))/\w'.cell? ⟨w.heap.size,1,none⟩=some (.int .i64 (xn:Int))/\w'.cell? ⟨w.heap.size+1,0,none⟩=some (.int .u64 (yk:Int))/\w'.cell? ⟨w.heap.size+1,1,none⟩=some (.int .i64 (yn:Int))) (go_keep) (first | (go_at_call 47;refine (C1 _).mono ?_;rintro e w7 ⟨rfl,rfl⟩) | (go_at_call 53;refine (C2 _).mono ?_;rintro e w7 ⟨rfl,rfl⟩) | (go_at_call 52;refine (CO.out _ _ (by rw[World.size_alloc,World.size_alloc])).mono ?_;rintro e w7 ⟨rfl,rfl⟩))
 go_wp2
 go_ret
 exact⟨rfl,1,_,by rw[alloc_eq_grow,alloc_eq_grow,alloc_eq_grow,grow_grow,grow_grow];rfl⟩
end Go.Proofs.YtdedoeeekcfkpaaDoor
namespace Go.Proofs.YtdedoeeekcfkpaaDoor
set_option linter.unusedVariables false
set_option linter.unusedSimpArgs false
open Go.RowKit
def leI (x y:It):Prop:=leP (keyF x.f,x.no) (keyF y.f,y.no)
theorem ItLt.le {x y:It} (h:ItLt x y):leI x y:=by
 unfold ItLt at h
 unfold leI leP
 omega
theorem ItLt.not_le {x y:It} (h:ItLt x y):¬leI y x:=by
 unfold ItLt at h
 unfold leI leP
 omega
theorem apart_eq {L:List It} (h:L.Pairwise fun x y=>x.no≠y.no) {a b:It} (ha:a∈L) (hb:b∈L) (e:a.no=b.no):a=b:=by
 induction L with
 | nil=>simp at ha
 | cons y L ih =>
   rw[List.pairwise_cons] at h
   rcases List.mem_cons.1 ha with e1 | ha2
   ·rcases List.mem_cons.1 hb with e2 | hb2
    ·rw[e1,e2]
    ·exact absurd e (by rw[e1];exact h.1 b hb2)
   ·rcases List.mem_cons.1 hb with e2 | hb2
    ·exact absurd e.symm (by rw[e2];exact h.1 a ha2)
    ·exact ih h.2 ha2 hb2
theorem fst_get (l:List (It × Value)) {k:Nat} (h:k < l.length):(l.getD k dR).1∈l.map Prod.fst:=by
 rw[show l.getD k dR=l[k] by simp[List.getD,h]]
 exact List.mem_map_of_mem (List.getElem_mem h)
theorem first_is {l:List (It × Value)} {its:List It} (hp:(l.map Prod.fst).Perm its) (hs:its.Pairwise ItLt) (h0:0 < l.length) (hm:∀ c,c < l.length->leG kpE (l.getD 0 dR) (l.getD c dR)):(l.getD 0 dR).1=its.getD 0 dI/\∃ rest,its=(l.getD 0 dR).1::rest:=by
 have hx:=hp.mem_iff.1 (fst_get l h0)
 cases its with
 | nil=>simp at hx
 | cons y rest =>
   rw[List.pairwise_cons] at hs
   have e:(l.getD 0 dR).1=y:=by
    rcases List.mem_cons.1 hx with e | hx
    ·exact e
    ·have hlt:=hs.1 _ hx
     obtain⟨p,hpm,e⟩:=List.mem_map.1 (hp.mem_iff.2 (List.mem_cons_self (a:=y) (l:=rest)))
     obtain⟨c,hc,ec⟩:=List.mem_iff_getElem.1 hpm
     have:=hm c hc
     rw[show l.getD c dR=p by simp[List.getD,hc,ec]] at this
     exact absurd (show leI (l.getD 0 dR).1 y by rw[<- e];exact this) hlt.not_le
   exact⟨by rw[e];rfl,rest,by rw[e]⟩
theorem rest_is {l l':List (It × Value)} {its rest:List It} {x:It × Value} (hp:(l.map Prod.fst).Perm its) (ht:l.Perm (x::l')) (e:its=x.1::rest):(l'.map Prod.fst).Perm rest:=by
 have h:=(ht.map Prod.fst).symm.trans hp
 rw[e,List.map_cons] at h
 exact h.cons_inv
theorem drop_is {l l':List (It × Value)} {its:List It} {x:It × Value} {n:Int} (hp:(l.map Prod.fst).Perm its) (ha:its.Pairwise fun x y=>x.no≠y.no) (ht:l.Perm (x::l')) (e:((x.1.no:Nat):Int)=n):(l'.map Prod.fst).Perm (delI n its):=by
 have h:=(ht.map Prod.fst).symm.trans hp
 rw[List.map_cons] at h
 have hpw:(x.1::l'.map Prod.fst).Pairwise fun x y=>x.no≠y.no:=(h.pairwise_iff (fun {a b} q=>Ne.symm q)).2 ha
 rw[List.pairwise_cons] at hpw
 have hf:=h.filter fun y=>((y.no:Nat):Int) != n
 rw[List.filter_cons,if_neg (by simp[e])] at hf
 have e2:(l'.map Prod.fst).filter (fun y=>((y.no:Nat):Int) != n)=l'.map Prod.fst:=by
  rw[List.filter_eq_self]
  intro z hz
  have:=hpw.1 z hz
  rw[bne_iff_ne]
  omega
 rw[e2] at hf
 exact hf
theorem has_of {l:List (It × Value)} {its:List It} {n:Int} (hp:(l.map Prod.fst).Perm its) {k:Nat} (hk:k < l.length) (e:(((l.getD k dR).1.no:Nat):Int)=n):hasI n its=true:=by
 unfold hasI
 rw[List.any_eq_true]
 exact⟨_,hp.mem_iff.1 (fst_get l hk),by rw[e];exact beq_self_eq_true _⟩
theorem has_no {l:List (It × Value)} {its:List It} {n:Int} (hp:(l.map Prod.fst).Perm its) (h:∀ j,j < l.length->(((l.getD j dR).1.no:Nat):Int)≠n):hasI n its=false/\delI n its=its:=by
 have hall:∀ x∈its,((x.no:Nat):Int)≠n:=fun x hx=>by
  obtain⟨p,hpm,e⟩:=List.mem_map.1 (hp.mem_iff.2 hx)
  obtain⟨c,hc,ec⟩:=List.mem_iff_getElem.1 hpm
  have:=h c hc
  rw[show l.getD c dR=p by simp[List.getD,hc,ec],e] at this
  exact this
 constructor
 ·unfold hasI
  rw[List.any_eq_false]
  intro x hx
  simpa using hall x hx
 ·unfold delI
  rw[List.filter_eq_self]
  intro x hx
  simpa using hall x hx
theorem all_is {l:List (It × Value)} {its:List It} (hp:(l.map Prod.fst).Perm its) (hs:its.Pairwise ItLt) (ha:its.Pairwise fun x y=>x.no≠y.no) (hl:l.Pairwise fun x y=>leP (kpE x) (kpE y)):l.map Prod.fst=its:=by
 refine List.Perm.eq_of_pairwise (le:=leI) (fun a b hA hB h1 h2 => ?_) ?_ (hs.imp ItLt.le) hp
 ·refine apart_eq ha (hp.mem_iff.1 hA) hB ?_
  unfold leI leP at h1 h2
  simp only at h1 h2
  omega
 ·rw[List.pairwise_map]
  exact hl
end Go.Proofs.YtdedoeeekcfkpaaDoor
