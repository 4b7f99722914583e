/- Things in a heap by their keys: lists, whatever they are; one goes down, one goes up. No program here. No conditions. Package cmp: Compare and Or of whole numbers. No conditions. -/
import Derived.Test.YtkofdbccdfpllaaDoorGor
import Derived.Test.YtkofdbccdfpllaaDoorGa
set_option maxHeartbeats 800000
namespace Go.Proofs.YtkofdbccdfpllaaDoor
set_option linter.unusedVariables false
set_option linter.unusedSimpArgs false
open Go.RowKit
def gsw {α:Type} (d:α) (l:List α) (i j:Nat):List α:=(l.set i (l.getD j d)).set j (l.getD i d)
theorem gsw_len {α:Type} (d:α) (l:List α) (i j:Nat):(gsw d l i j).length=l.length:=by simp[gsw]
theorem gsw_get {α:Type} (d:α) (l:List α) {i j:Nat} (hi:i < l.length) (hj:j < l.length) (k:Nat) :
    (gsw d l i j).getD k d=if k=j then l.getD i d else if k=i then l.getD j d else l.getD k d:=by
 unfold gsw
 generalize l.getD j d=u
 generalize l.getD i d=v
 by_cases h1:k=j
 ·subst h1
  simp[List.getD,hj]
 ·rw[if_neg h1,List.getD,List.getElem?_set_ne (Ne.symm h1)]
  by_cases h2:k=i
  ·subst h2
   simp[hi]
  ·rw[if_neg h2,List.getElem?_set_ne (Ne.symm h2)];rfl
theorem gsw_perm {α:Type} (d:α) (l:List α) {i j:Nat} (hi:i < l.length) (hj:j < l.length):(gsw d l i j).Perm l:=by
 have e1:l.getD j d=l[j]:=by simp[List.getD,hj]
 have e2:l.getD i d=l[i]:=by simp[List.getD,hi]
 unfold gsw
 rw[e1,e2]
 exact List.set_set_perm hi hj
theorem gget_ext {α:Type} (d:α) {l m:List α} (hl:l.length=m.length) (h:∀ k,k < l.length->l.getD k d=m.getD k d):l=m:=by
 apply List.ext_getElem hl
 intro k h1 h2
 have:=h k h1
 simpa [List.getD,h1,h2] using this
section
variable {α:Type} (d:α) (kp:α->Nat × Nat)
def leG (x y:α):Prop:=leP (kp x) (kp y)
def ahG (x y:α):Bool:=ahB (kp x) (kp y)
def HeQ (Q:Nat->Prop) (l:List α) (n:Nat):Prop:=∀ c,0 < c->c < n->Q c->leG kp (l.getD ((c - 1) / 2) d) (l.getD c d)
abbrev allQ:Nat->Prop:=fun _=>True
theorem HeQ.min {l:List α} {n:Nat} (h:HeQ d kp allQ l n):∀ c,c < n->leG kp (l.getD 0 d) (l.getD c d):=by
 intro c
 induction c using Nat.strongRecOn with
 | _ c ih =>
   intro hc
   by_cases h0:c=0
   ·subst h0;exact leP_refl _
   ·exact leP_trans (ih ((c - 1) / 2) (by omega) (by omega)) (h c (by omega) hc trivial)
theorem HeQ.less {Q:Nat->Prop} {l:List α} {n m:Nat} (h:HeQ d kp Q l n) (hm:m<=n):HeQ d kp Q l m:=fun c h1 h2 h3=>h c h1 (by omega) h3
theorem HeQ.congr {Q:Nat->Prop} {l l':List α} {n:Nat} (h:HeQ d kp Q l n) (he:∀ k,k < n->l'.getD k d=l.getD k d):HeQ d kp Q l' n:=fun c h1 h2 h3=>by
 rw[he _ (by omega),he c h2]
 exact h c h1 h2 h3
structure DnG (Q:Nat->Prop) (l0 l:List α) (n i0 i:Nat):Prop where
 len:l.length=l0.length
 perm:l.Perm l0
 rest:∀ k,n<=k->l.getD k d=l0.getD k d
 low:∀ k,k < i0->l.getD k d=l0.getD k d
 stay:i=i0->l=l0
 top:i0 < i->leG kp (l.getD i0 d) (l0.getD i0 d)/\∃ c,0 < c/\c < n/\(c - 1) / 2=i0/\l.getD i0 d=l0.getD c d
 heap:∀ c,0 < c->c < n->Q c->(c - 1) / 2≠i->leG kp (l.getD ((c - 1) / 2) d) (l.getD c d)
 over:i0 < i->∀ c,0 < c->c < n->(c - 1) / 2=i->leG kp (l.getD ((i - 1) / 2) d) (l.getD c d)
 from0:i0<=i
 par:i0 < i->i0<=(i - 1) / 2
theorem DnG.start {Q:Nat->Prop} {l:List α} {n i0:Nat} (h:∀ c,0 < c->c < n->Q c->(c - 1) / 2≠i0->leG kp (l.getD ((c - 1) / 2) d) (l.getD c d)):DnG d kp Q l l n i0 i0 :=
 ⟨rfl,List.Perm.refl _,fun _ _=>rfl,fun _ _=>rfl,fun _=>rfl,fun h=>by omega,h,fun h=>by omega,Nat.le_refl _,fun h=>by omega⟩
def kidG (l:List α) (n i:Nat):Nat:=if 2*i+2 < n/\ahG kp (l.getD (2*i+2) d) (l.getD (2*i+1) d)=true then 2*i+2 else 2*i+1
theorem kidG_or (l:List α) (n i:Nat):(kidG d kp l n i=2*i+1\/kidG d kp l n i=2*i+2/\2*i+2 < n):=by
 unfold kidG
 split
 ·rename_i h;exact .inr ⟨rfl,h.1⟩
 ·exact .inl rfl
theorem kidG_min {l:List α} {n i c:Nat} (h0:0 < c) (hc:c < n) (hp:(c - 1) / 2=i):leG kp (l.getD (kidG d kp l n i) d) (l.getD c d):=by
 have:c=2*i+1\/c=2*i+2:=by omega
 unfold kidG
 split
 ·rename_i h
  rcases this with rfl | rfl
  ·exact leP_not ((ahB_iff _ _).1 h.2)
  ·exact leP_refl _
 ·rename_i h
  rcases this with rfl | rfl
  ·exact leP_refl _
  ·by_cases hb:ahG kp (l.getD (2*i+2) d) (l.getD (2*i+1) d)=true
   ·exact absurd ⟨hc,hb⟩ h
   ·have:=mt (ahB_iff _ _).2 hb
    show leP _ _
    exact Decidable.not_not.1 this
theorem DnG.stop1 {Q:Nat->Prop} {l0 l:List α} {n i0 i:Nat} (h:DnG d kp Q l0 l n i0 i) (hn:n<=2*i+1):HeQ d kp Q l n:=fun c h1 h2 h3=>h.heap c h1 h2 h3 (by omega)
theorem DnG.stop2 {Q:Nat->Prop} {l0 l:List α} {n i0 i:Nat} (h:DnG d kp Q l0 l n i0 i) (hk:ahG kp (l.getD (kidG d kp l n i) d) (l.getD i d)=false):HeQ d kp Q l n:=fun c h1 h2 h3=>by
 by_cases hc:(c - 1) / 2=i
 ·rw[hc]
  have h4:leG kp (l.getD i d) (l.getD (kidG d kp l n i) d):=by
   have:=mt (ahB_iff (kp (l.getD (kidG d kp l n i) d)) (kp (l.getD i d))).2 (by unfold ahG at hk;rw[hk];simp)
   show leP _ _
   exact Decidable.not_not.1 this
  exact leP_trans h4 (kidG_min d kp h1 h2 hc)
 ·exact h.heap c h1 h2 h3 hc
theorem DnG.step {Q:Nat->Prop} {l0 l:List α} {n i0 i:Nat} (h:DnG d kp Q l0 l n i0 i) (hq:¬Q i0\/i0=0) (hq2:∀ c,i0<=(c - 1) / 2->0 < c->Q c) (hn:2*i+1 < n) (hl:n<=l.length) (hk:ahG kp (l.getD (kidG d kp l n i) d) (l.getD i d)=true) :
    DnG d kp Q l0 (gsw d l i (kidG d kp l n i)) n i0 (kidG d kp l n i):=by
 have hj:=kidG_or d kp l n i
 have hm:=fun c h0 hc hp=>kidG_min d kp (l:=l) (n:=n) (i:=i) (c:=c) h0 hc hp
 generalize hkk:kidG d kp l n i=j at *
 have hle:leG kp (l.getD j d) (l.getD i d):=leP_not ((ahB_iff _ _).1 hk)
 have hi:i < l.length:=by omega
 have hjl:j < l.length:=by omega
 have g:=gsw_get d l hi hjl
 have f0:=h.from0
 refine⟨by rw[gsw_len,h.len],(gsw_perm d l hi hjl).trans h.perm,fun k hk => ?_,fun k hk => ?_,fun e=>by omega,fun _ => ?_,fun c h1 h2 h3 h4 => ?_,fun h0 c h1 h2 h3 => ?_,by omega,fun _=>by omega⟩
 ·rw[g,if_neg (by omega),if_neg (by omega)]
  exact h.rest k hk
 ·rw[g,if_neg (by omega),if_neg (by omega)]
  exact h.low k hk
 ·by_cases e:i=i0
  ·have hs:=h.stay e
   rw[g,if_neg (by omega),if_pos e.symm]
   refine⟨by rw[<- hs,<- e];exact hle,j,by omega,by omega,by omega,by rw[hs]⟩
  ·rw[g,if_neg (by omega),if_neg (fun q=>e q.symm)]
   exact h.top (by omega)
 ·by_cases hp:(c - 1) / 2=i
  ·rw[hp,g,if_neg (by omega),if_pos rfl,g]
   by_cases hcj:c=j
   ·rw[if_pos hcj];exact hle
   ·rw[if_neg hcj,if_neg (by omega)]
    exact hm c h1 h2 hp
  ·have hcj:c≠j:=by omega
   rw[g,if_neg h4,if_neg hp,g,if_neg hcj]
   by_cases hci:c=i
   ·subst hci
    rw[if_pos rfl]
    refine h.over ?_ j (by omega) (by omega) (by omega)
    rcases hq with hq | hq
    ·have:c≠i0:=fun e=>hq (e ▸ h3)
     omega
    ·omega
   ·rw[if_neg hci]
    exact h.heap c h1 h2 h3 hp
 ·have e:(j - 1) / 2=i:=by omega
  rw[e,g,if_neg (by omega),if_pos rfl,g,if_neg (by omega),if_neg (by omega)]
  have:=h.heap c h1 h2 (hq2 c (by omega) h1) (by omega)
  rwa[h3] at this
theorem DnG.head {Q:Nat->Prop} {l0 l:List α} {n i0 i:Nat} (h:DnG d kp Q l0 l n i0 i) (hn:n<=l0.length):(l.take n).Perm (l0.take n):=by
 have e:l.drop n=l0.drop n:=by
  apply gget_ext d (by simp[h.len])
  intro k _
  have:=h.rest (n+k) (by omega)
  simpa [List.getD,List.getElem?_drop] using this
 have hp:=h.perm
 rw[<- List.take_append_drop n l,<- List.take_append_drop n l0,e] at hp
 exact (List.perm_append_right_iff _).1 hp
structure UpG (l0 l:List α) (n j:Nat):Prop where
 len:l.length=l0.length
 perm:l.Perm l0
 rest:∀ k,n<=k->l.getD k d=l0.getD k d
 heap:∀ c,0 < c->c < n->c≠j->leG kp (l.getD ((c - 1) / 2) d) (l.getD c d)
 over:0 < j->∀ c,0 < c->c < n->(c - 1) / 2=j->leG kp (l.getD ((j - 1) / 2) d) (l.getD c d)
theorem UpG.stop0 {l0 l:List α} {n:Nat} (h:UpG d kp l0 l n 0):HeQ d kp allQ l n:=fun c h1 h2 _=>h.heap c h1 h2 (by omega)
theorem UpG.stop {l0 l:List α} {n j:Nat} (h:UpG d kp l0 l n j) (hk:ahG kp (l.getD j d) (l.getD ((j - 1) / 2) d)=false):HeQ d kp allQ l n:=fun c h1 h2 _=>by
 by_cases hc:c=j
 ·subst hc
  have:=mt (ahB_iff (kp (l.getD c d)) (kp (l.getD ((c - 1) / 2) d))).2 (by unfold ahG at hk;rw[hk];simp)
  show leP _ _
  exact Decidable.not_not.1 this
 ·exact h.heap c h1 h2 hc
theorem UpG.step {l0 l:List α} {n j:Nat} (h:UpG d kp l0 l n j) (h0:0 < j) (hj:j < n) (hl:n<=l.length) (hk:ahG kp (l.getD j d) (l.getD ((j - 1) / 2) d)=true) :
    UpG d kp l0 (gsw d l ((j - 1) / 2) j) n ((j - 1) / 2):=by
 have hle:leG kp (l.getD j d) (l.getD ((j - 1) / 2) d):=leP_not ((ahB_iff _ _).1 hk)
 generalize hi:(j - 1) / 2=i at *
 have g:=gsw_get d l (i:=i) (j:=j) (by omega) (by omega)
 refine⟨by rw[gsw_len,h.len],(gsw_perm d l (by omega) (by omega)).trans h.perm,fun k hk => ?_,fun c h1 h2 h3 => ?_,fun hi0 c h1 h2 h3 => ?_⟩
 ·rw[g,if_neg (by omega),if_neg (by omega)]
  exact h.rest k hk
 ·by_cases hcj:c=j
  ·subst hcj
   rw[hi,g,if_neg (by omega),if_pos rfl,g,if_pos rfl]
   exact hle
  ·rw[g c,if_neg hcj,if_neg h3]
   by_cases hpi:(c - 1) / 2=i
   ·rw[hpi,g,if_neg (by omega),if_pos rfl]
    have:=h.heap c h1 h2 hcj
    rw[hpi] at this
    exact leP_trans hle this
   ·by_cases hpj:(c - 1) / 2=j
    ·rw[hpj,g,if_pos rfl]
     have:=h.over h0 c h1 h2 hpj
     rwa[hi] at this
    ·rw[g,if_neg hpj,if_neg hpi]
     exact h.heap c h1 h2 hcj
 ·have hii:=h.heap i hi0 (by omega) (by omega)
  rw[g ((i - 1) / 2),if_neg (by omega),if_neg (by omega),g c]
  by_cases hcj:c=j
  ·rw[if_pos hcj];exact hii
  ·rw[if_neg hcj,if_neg (by omega)]
   have:=h.heap c h1 h2 hcj
   rw[h3] at this
   exact leP_trans hii this
theorem UpG.start {l:List α} {n j:Nat} (h:∀ c,0 < c->c < n->c≠j->leG kp (l.getD ((c - 1) / 2) d) (l.getD c d)) (ho:0 < j->∀ c,0 < c->c < n->(c - 1) / 2=j->leG kp (l.getD ((j - 1) / 2) d) (l.getD c d)):UpG d kp l l n j :=
 ⟨rfl,List.Perm.refl _,fun _ _=>rfl,h,ho⟩
theorem UpG.push {l:List α} (x:α) (h:HeQ d kp allQ l l.length):UpG d kp (l++[x]) (l++[x]) (l.length+1) l.length:=by
 have e:∀ k,k < l.length->(l++[x]).getD k d=l.getD k d:=fun k hk=>by
  show ((l++[x])[k]?).getD d=(l[k]?).getD d
  rw[List.getElem?_append_left hk]
 refine UpG.start d kp (fun c h1 h2 h3 => ?_) (fun _ c h1 h2 h3=>by omega)
 rw[e _ (by omega),e c (by omega)]
 exact h c h1 (by omega) trivial
theorem gsw_rem {l:List α} {n i:Nat} (h:HeQ d kp allQ l l.length) (hl:l.length=n+1) (hi:i < n) :
    (∀ c,0 < c->c < n->c≠i->(c - 1) / 2≠i->leG kp ((gsw d l i n).getD ((c - 1) / 2) d) ((gsw d l i n).getD c d)) /\
    (0 < i->∀ c,0 < c->c < n->(c - 1) / 2=i->leG kp ((gsw d l i n).getD ((i - 1) / 2) d) ((gsw d l i n).getD c d)):=by
 have g:=gsw_get d l (i:=i) (j:=n) (by omega) (by omega)
 refine⟨fun c h1 h2 h3 h4 => ?_,fun h0 c h1 h2 h3 => ?_⟩
 ·rw[g,if_neg (by omega),if_neg h4,g,if_neg (by omega),if_neg h3]
  exact h c h1 (by omega) trivial
 ·rw[g,if_neg (by omega),if_neg (by omega),g,if_neg (by omega),if_neg (by omega)]
  have a:=h i h0 (by omega) trivial
  have b:=h c h1 (by omega) trivial
  rw[h3] at b
  exact leP_trans a b
theorem rem_down {l0 l:List α} {n i:Nat} (h:HeQ d kp (fun c=>c≠i) l n) (hlow:∀ k,k < i->l.getD k d=l0.getD k d) (ht:∃ c,0 < c/\c < n/\(c - 1) / 2=i/\l.getD i d=l0.getD c d)
    (ho:0 < i->∀ c,0 < c->c < n->(c - 1) / 2=i->leG kp (l0.getD ((i - 1) / 2) d) (l0.getD c d)):HeQ d kp allQ l n:=fun c h1 h2 _=>by
 by_cases hc:c=i
 ·subst hc
  obtain⟨c',a1,a2,a3,a4⟩:=ht
  rw[a4,hlow _ (by omega)]
  exact ho h1 c' a1 a2 a3
 ·exact h c h1 h2 hc
theorem rem_up {l:List α} {n i:Nat} (h:HeQ d kp (fun c=>c≠i) l n) (ho:0 < i->∀ c,0 < c->c < n->(c - 1) / 2=i->leG kp (l.getD ((i - 1) / 2) d) (l.getD c d)):UpG d kp l l n i :=
 UpG.start d kp (fun c h1 h2 h3=>h c h1 h2 h3) ho
theorem glast_of {l:List α} {n:Nat} (h:l.length=n+1):l=l.take n++[l.getD n d]:=by
 have e:=List.take_append_drop n l
 have e2:l.drop n=[l.getD n d]:=by
  rw[List.drop_eq_getElem_cons (by omega),List.drop_eq_nil_of_le (by omega)]
  simp[List.getD,show n < l.length by omega]
 rw[e2] at e
 exact e.symm
theorem gtake_heap {l:List α} {n:Nat} (h:HeQ d kp allQ l n) (hl:n<=l.length):HeQ d kp allQ (l.take n) (l.take n).length:=by
 rw[List.length_take,Nat.min_eq_left hl]
 exact h.congr d kp (fun k hk=>by simp[List.getD,hk])
end
end Go.Proofs.YtkofdbccdfpllaaDoor
namespace Go.Proofs.YtkofdbccdfpllaaDoor
set_option linter.unusedVariables false
set_option linter.unusedSimpArgs false
open Go.RowKit
def cmpI (m n:Int):Int:=if m < n then -1 else if n < m then 1 else 0
theorem nanU_any (m:Int) (w:World):Calls Tryd.prog 29 #[.int .u64 m] w fun e w'=>e = .returned (.bool false)/\w'=w:=by
 have h:(m != m)=false:=by simp
 go_enter Tryd.func29,Tryd.ntmps29
 go_wp2
 go_ret
 exact⟨by simp,rfl⟩
theorem cmpU_any (m n:Int) (w:World):Calls Tryd.prog 16 #[.int .u64 m,.int .u64 n] w fun e w'=>e = .returned (.int .i64 (cmpI m n))/\w'=w:=by
 unfold cmpI
 by_cases h1:m < n
 ·rw[if_pos h1]
  have d1:decide (m < n)=true:=decide_eq_true h1
  go_enter Tryd.func16,Tryd.ntmps16
  go_wp2_with (go_at_call 29;refine (nanU_any _ _).mono ?_;rintro e w1 ⟨rfl,rfl⟩)
  go_ret
  exact⟨rfl,rfl⟩
 rw[if_neg h1]
 have d1:decide (m < n)=false:=decide_eq_false h1
 by_cases h2:n < m
 ·rw[if_pos h2]
  have d2:decide (n < m)=true:=decide_eq_true h2
  clear h1
  go_enter Tryd.func16,Tryd.ntmps16
  go_wp2_with (go_at_call 29;refine (nanU_any _ _).mono ?_;rintro e w1 ⟨rfl,rfl⟩)
  go_ret
  exact⟨rfl,rfl⟩
 rw[if_neg h2]
 have d2:decide (n < m)=false:=decide_eq_false h2
 clear h1 h2
 go_enter Tryd.func16,Tryd.ntmps16
 go_wp2_with (go_at_call 29;refine (nanU_any _ _).mono ?_;rintro e w1 ⟨rfl,rfl⟩)
 go_ret
 exact⟨rfl,rfl⟩
theorem nanI_any (m:Int) (w:World):Calls Tryd.prog 41 #[.int .i64 m] w fun e w'=>e = .returned (.bool false)/\w'=w:=by
 have h:(m != m)=false:=by simp
 go_enter Tryd.func41,Tryd.ntmps41
 go_wp2
 go_ret
 exact⟨by simp,rfl⟩
theorem cmpI_any (m n:Int) (w:World):Calls Tryd.prog 31 #[.int .i64 m,.int .i64 n] w fun e w'=>e = .returned (.int .i64 (cmpI m n))/\w'=w:=by
 unfold cmpI
 by_cases h1:m < n
 ·rw[if_pos h1]
  have d1:decide (m < n)=true:=decide_eq_true h1
  go_enter Tryd.func31,Tryd.ntmps31
  go_wp2_with (go_at_call 41;refine (nanI_any _ _).mono ?_;rintro e w1 ⟨rfl,rfl⟩)
  go_ret
  exact⟨rfl,rfl⟩
 rw[if_neg h1]
 have d1:decide (m < n)=false:=decide_eq_false h1
 by_cases h2:n < m
 ·rw[if_pos h2]
  have d2:decide (n < m)=true:=decide_eq_true h2
  clear h1
  go_enter Tryd.func31,Tryd.ntmps31
  go_wp2_with (go_at_call 41;refine (nanI_any _ _).mono ?_;rintro e w1 ⟨rfl,rfl⟩)
  go_ret
  exact⟨rfl,rfl⟩
 rw[if_neg h2]
 have d2:decide (n < m)=false:=decide_eq_false h2
 clear h1 h2
 go_enter Tryd.func31,Tryd.ntmps31
 go_wp2_with (go_at_call 41;refine (nanI_any _ _).mono ?_;rintro e w1 ⟨rfl,rfl⟩)
 go_ret
 exact⟨rfl,rfl⟩
theorem or_any (g:Nat) (x y r:Int) (hr:r=if x=0 then y else x) (w:World) (h0:w.cell? ⟨g,0,none⟩=some (.int .i64 x)) (h1:w.cell? ⟨g,1,none⟩=some (.int .i64 y)) :
    Calls Tryd.prog 30 #[.slice (some ⟨g,0,none⟩) 2 2] w fun e w'=>e = .returned (.int .i64 r)/\w'=w:=by
 have HR:=Lib.hid hr
 clear hr
 go_enter Tryd.func30,Tryd.ntmps30
 go_wp2
 go_loopw [8] (fun ix wr=>(ix = .int .i64 0\/(ix = .int .i64 1/\x=0)\/(ix = .int .i64 2/\x=0/\y=0))/\wr=w) (fun ix _=>2 - (intOf ix).toNat)
 case atStart=>exact⟨.inl rfl,rfl⟩
 case round =>
  obtain⟨rfl | ⟨rfl,rfl⟩ | ⟨rfl,rfl,rfl⟩,rfl⟩:=hrel
  ·by_cases hx:x=0
   ·subst hx
    go_wp2
    go_roundw
    case rel=>simp
    case measure=>simp[intOf]
   ·have d1:(x != 0)=true:=by simp[hx]
    go_wp2
    go_ret
    exact⟨by rw[HR.out,if_neg hx];rfl,rfl⟩
  ·by_cases hy:y=0
   ·subst hy
    go_wp2
    go_roundw
    case rel=>simp
    case measure=>simp[intOf]
   ·have d1:(y != 0)=true:=by simp[hy]
    go_wp2
    go_ret
    exact⟨by rw[HR.out,if_pos trivial];rfl,rfl⟩
  ·go_wp2
   go_ret
   exact⟨by rw[HR.out,if_pos trivial];rfl,rfl⟩
theorem or_new (g:Nat) (x y r:Int) (hr:r=if x=0 then y else x) (w:World) (hg:g=w.heap.size) :
    Calls Tryd.prog 30 #[.slice (some ⟨g,0,none⟩) 2 2] (w.alloc (.cells #[.int .i64 x,.int .i64 y] 3)).drew fun e w'=>e = .returned (.int .i64 r)/\w'=(w.alloc (.cells #[.int .i64 x,.int .i64 y] 3)).drew:=by
 subst hg
 have b:=(Blk.new w #[.int .i64 x,.int .i64 y] 3).nb (Below.drew (Below.refl _ _):Nb _ (w.alloc (.cells #[.int .i64 x,.int .i64 y] 3)).drew)
 exact or_any _ x y r hr _ (b.cell 0) (b.cell 1)
end Go.Proofs.YtkofdbccdfpllaaDoor
