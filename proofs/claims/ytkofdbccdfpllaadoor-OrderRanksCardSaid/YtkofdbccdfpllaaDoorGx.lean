/- Bits with stuff bits behind each so many, and what they tell, as functions on lists. No conditions. Contracts of package fixed's state: begin, due, add, stuff, plain. No conditions but small numbers. How many bits are left up to a stuff bit, how many raw bits there are, tallies: lists alone. No conditions. Contracts of package fixed's Size and Put. No conditions. Contracts of tallies: package fixed's Tally and Tells. No conditions. -/
import Derived.Test.YtkofdbccdfpllaaDoorGs
import Derived.Test.YtkofdbccdfpllaaDoorGa
namespace Go.Proofs.YtkofdbccdfpllaaDoor
set_option linter.unusedVariables false
set_option linter.unusedSimpArgs false
open Go.RowKit
def dueF (E:Nat) (A:Bool) (n:Nat):Bool:=if n=0 then A else decide (n%E=0)
def lastP (p:Nat) (l:List Nat):Nat:=if l=[] then p else l.getD (l.length - 1) 0
theorem lastP_nil (p:Nat):lastP p []=p:=rfl
theorem lastP_snoc (p:Nat) (l:List Nat) (b:Nat):lastP p (l++[b])=b:=by simp[lastP]
theorem lastP_append (p:Nat) (l m:List Nat):lastP p (l++m)=lastP (lastP p l) m:=by
 by_cases h:m=[]
 ·subst h;simp[lastP]
 ·unfold lastP
  rw[if_neg (by simp[h]),if_neg h]
  have:0 < m.length:=List.length_pos_iff.2 h
  simp only[List.getD,List.length_append]
  rw[List.getElem?_append_right (by omega)]
  congr 2
  omega
theorem lastP_le {p:Nat} {l:List Nat} (hp:p<=1) (h:∀ x∈l,x<=1):lastP p l<=1:=by
 unfold lastP
 split
 ·exact hp
 ·rename_i hl
  have hp:l.length - 1 < l.length:=by have:=List.length_pos_iff.2 hl;omega
  exact h _ (List.mem_of_getElem? (i:=l.length - 1) (by simp[List.getD,List.getElem?_eq_getElem hp]))
def fxStep (E:Nat) (A:Bool) (p:Nat) (s:Nat × List Nat) (b:Nat):Nat × List Nat:=(s.1+1,if dueF E A s.1 then s.2++[1 - lastP p s.2,b] else s.2++[b])
theorem fxStep_eq (E:Nat) (A:Bool) (p:Nat) (s:Nat × List Nat) (b:Nat):fxStep E A p s b=(s.1+1,if dueF E A s.1 then s.2++[1 - lastP p s.2,b] else s.2++[b]):=rfl
def fxPut (E:Nat) (A:Bool) (p:Nat) (l:List Nat):List Nat:=(l.foldl (fxStep E A p) (0,[])).2
theorem fx_fst (E:Nat) (A:Bool) (p:Nat) (l:List Nat):∀ s:Nat × List Nat,(l.foldl (fxStep E A p) s).1=s.1+l.length:=by
 induction l with
 | nil=>intro s;rfl
 | cons b l ih=>intro s;rw[List.foldl_cons,ih];simp[fxStep];omega
theorem fxPut_nil (E:Nat) (A:Bool) (p:Nat):fxPut E A p []=[]:=rfl
theorem fxPut_snoc (E:Nat) (A:Bool) (p:Nat) (l:List Nat) (b:Nat):fxPut E A p (l++[b])=if dueF E A l.length then fxPut E A p l++[1 - lastP p (fxPut E A p l),b] else fxPut E A p l++[b]:=by
 have h:=fx_fst E A p l (0,[])
 unfold fxPut
 rw[List.foldl_append,List.foldl_cons,List.foldl_nil,fxStep_eq,h]
 simp
theorem fxPut_bit {E:Nat} {A:Bool} {p:Nat} {l:List Nat}:(∀ x∈l,x<=1)->∀ x∈fxPut E A p l,x<=1:=by
 refine snocInd (P:=fun l=>(∀ x∈l,x<=1)->∀ x∈fxPut E A p l,x<=1) (by simp[fxPut]) (fun l b ih hl => ?_) l
 have ih:=ih (fun x hx=>hl x (by simp[hx]))
 have hb:=hl b (by simp)
 rw[fxPut_snoc]
 split
 ·intro x hx
  rcases List.mem_append.1 hx with h | h
  ·exact ih x h
  ·simp at h;omega
 ·intro x hx
  rcases List.mem_append.1 hx with h | h
  ·exact ih x h
  ·simp at h;omega
def szF (E:Nat) (A:Bool) (n:Nat):Nat:=if n=0 then 0 else n+(n - 1) / E+A.toNat
theorem div_step {E n:Nat} (hn:0 < n):n / E=(n - 1) / E+(if n%E=0 then 1 else 0):=by
 obtain⟨m,rfl⟩:∃ m,n=m+1:=⟨n - 1,by omega⟩
 rw[Nat.add_sub_cancel,Nat.succ_div]
 simp only[Nat.dvd_iff_mod_eq_zero]
theorem fxPut_len {E:Nat} (A:Bool) (p:Nat) (l:List Nat):(fxPut E A p l).length=szF E A l.length:=by
 refine snocInd (P:=fun l=>(fxPut E A p l).length=szF E A l.length) (by simp[fxPut,szF]) (fun l b ih => ?_) l
 rw[fxPut_snoc,List.length_append,List.length_singleton]
 have hs:szF E A (l.length+1)=szF E A l.length+1+(dueF E A l.length).toNat:=by
  unfold szF dueF
  by_cases h0:l.length=0
  ·rw[if_neg (by omega),if_pos h0,if_pos h0,h0]
   simp
  ·rw[if_neg (by omega),if_neg h0,if_neg h0,Nat.add_sub_cancel,div_step (by omega:0 < l.length)]
   by_cases hm:l.length%E=0
   ·simp[hm];omega
   ·simp[hm];omega
 rw[hs,<- ih]
 split
 ·rename_i h;rw[h];simp
 ·rename_i h;rw[Bool.not_eq_true] at h;rw[h];simp
structure FxS where
 due:Bool
 out:List Nat
 last:Bool
 prev:Nat
 ok:Bool
def fgStep (E:Nat) (s:FxS) (b:Nat):FxS :=
 { due := !s.due&&decide ((s.out++[b]).length%E=0),out:=if s.due then s.out else s.out++[b],last:=s.due,prev:=b,ok:=s.ok && !(s.due&&b==s.prev) }
def fgS (E:Nat) (A:Bool) (p:Nat) (l:List Nat):FxS:=l.foldl (fgStep E) ⟨A,[],false,p,true⟩
theorem fgS_snoc (E:Nat) (A:Bool) (p:Nat) (l:List Nat) (b:Nat):fgS E A p (l++[b])=fgStep E (fgS E A p l) b:=by simp[fgS]
theorem fgS_nil (E:Nat) (A:Bool) (p:Nat):fgS E A p []=⟨A,[],false,p,true⟩:=rfl
theorem fgS_prev (E:Nat) (A:Bool) (p:Nat) (l:List Nat):(fgS E A p l).prev=lastP p l:=by
 refine snocInd (P:=fun l=>(fgS E A p l).prev=lastP p l) rfl (fun l b _ => ?_) l
 rw[fgS_snoc,lastP_snoc]
 rfl
theorem fgS_len (E:Nat) (A:Bool) (p:Nat) (l:List Nat):(fgS E A p l).out.length<=l.length:=by
 refine snocInd (P:=fun l=>(fgS E A p l).out.length<=l.length) (by simp[fgS]) (fun l b ih => ?_) l
 rw[fgS_snoc]
 unfold fgStep
 simp only
 split<;>simp<;>omega
theorem fgS_due (E:Nat) (A:Bool) (p:Nat) (l:List Nat):(fgS E A p l).due=(!(fgS E A p l).last&&dueF E A (fgS E A p l).out.length):=by
 refine snocInd (P:=fun l=>(fgS E A p l).due=(!(fgS E A p l).last&&dueF E A (fgS E A p l).out.length)) (by simp[fgS,dueF]) (fun l b ih => ?_) l
 rw[fgS_snoc]
 unfold fgStep
 simp only
 cases hd:(fgS E A p l).due with
 | true=>simp
 | false=>simp[dueF]
theorem fgS_ok_left (E:Nat) (A:Bool) (p:Nat) (l m:List Nat):(fgS E A p (l++m)).ok=true->(fgS E A p l).ok=true:=by
 refine snocInd (P:=fun m=>(fgS E A p (l++m)).ok=true->(fgS E A p l).ok=true) (by simp) (fun m b ih h => ?_) m
 rw[<- List.append_assoc,fgS_snoc] at h
 unfold fgStep at h
 simp only[Bool.and_eq_true] at h
 exact ih h.1
theorem fgS_bit {E:Nat} {A:Bool} {p:Nat} {l:List Nat}:(∀ x∈l,x<=1)->∀ x∈(fgS E A p l).out,x<=1:=by
 refine snocInd (P:=fun l=>(∀ x∈l,x<=1)->∀ x∈(fgS E A p l).out,x<=1) (by simp[fgS]) (fun l b ih hl => ?_) l
 have ih:=ih (fun x hx=>hl x (by simp[hx]))
 have hb:=hl b (by simp)
 rw[fgS_snoc]
 unfold fgStep
 simp only
 split
 ·exact ih
 ·intro x hx
  rcases List.mem_append.1 hx with h | h
  ·exact ih x h
  ·simp at h;omega
theorem fg_put {E:Nat} {A:Bool} {p:Nat} (hp:p<=1) {l:List Nat}:(∀ x∈l,x<=1)->(fgS E A p (fxPut E A p l)).out=l/\(fgS E A p (fxPut E A p l)).last=false/\(fgS E A p (fxPut E A p l)).ok=true/\(fgS E A p (fxPut E A p l)).due=dueF E A l.length:=by
 refine snocInd (P:=fun l=>(∀ x∈l,x<=1)->(fgS E A p (fxPut E A p l)).out=l/\(fgS E A p (fxPut E A p l)).last=false/\(fgS E A p (fxPut E A p l)).ok=true/\(fgS E A p (fxPut E A p l)).due=dueF E A l.length) (by simp[fxPut,fgS,dueF]) (fun l b ih hl => ?_) l
 have hl':∀ x∈l,x<=1:=fun x hx=>hl x (by simp[hx])
 obtain⟨i1,i2,i3,i4⟩:=ih hl'
 have hle:=lastP_le hp (fxPut_bit (E:=E) (A:=A) (p:=p) hl')
 have hpv:=fgS_prev E A p (fxPut E A p l)
 rw[fxPut_snoc]
 cases hd:dueF E A l.length with
 | true =>
   rw[if_pos rfl,show fxPut E A p l++[1 - lastP p (fxPut E A p l),b]=(fxPut E A p l++[1 - lastP p (fxPut E A p l)])++[b] from by simp,fgS_snoc,fgS_snoc]
   unfold fgStep
   simp only[i1,i3,i4,hd,hpv]
   simp[dueF]
   omega
 | false =>
   simp only[Bool.false_eq_true,if_false]
   rw[fgS_snoc]
   unfold fgStep
   simp only[i1,i3,i4,hd,hpv]
   simp[dueF]
theorem put_fg {E:Nat} {A:Bool} {p:Nat} (hp:p<=1) {l:List Nat}:(∀ x∈l,x<=1)->(fgS E A p l).ok=true ->
    ((fgS E A p l).last=false->fxPut E A p (fgS E A p l).out=l)/\((fgS E A p l).last=true->dueF E A (fgS E A p l).out.length=true/\fxPut E A p (fgS E A p l).out++[1 - lastP p (fxPut E A p (fgS E A p l).out)]=l):=by
 refine snocInd (P:=fun l=>(∀ x∈l,x<=1)->(fgS E A p l).ok=true->((fgS E A p l).last=false->fxPut E A p (fgS E A p l).out=l)/\((fgS E A p l).last=true->dueF E A (fgS E A p l).out.length=true/\fxPut E A p (fgS E A p l).out++[1 - lastP p (fxPut E A p (fgS E A p l).out)]=l)) (by simp[fxPut,fgS]) (fun l b ih hl ho => ?_) l
 have hl':∀ x∈l,x<=1:=fun x hx=>hl x (by simp[hx])
 have hb:=hl b (by simp)
 have hle:=lastP_le hp hl'
 have hpv:=fgS_prev E A p l
 have hdue:=fgS_due E A p l
 rw[fgS_snoc] at ho ⊢
 unfold fgStep at ho ⊢
 simp only[Bool.and_eq_true,Bool.not_eq_true',Bool.and_eq_false_iff,beq_eq_false_iff_ne,hpv] at ho
 simp only
 obtain⟨i1,i2⟩:=ih hl' ho.1
 cases hd:(fgS E A p l).due with
 | true =>
   rw[hd] at hdue
   have hs:=hdue.symm
   rw[Bool.and_eq_true,Bool.not_eq_true'] at hs
   refine⟨by simp,fun _ => ?_⟩
   rw[if_pos rfl,i1 hs.1]
   refine⟨hs.2,?_⟩
   rcases ho.2 with h | h
   ·rw[hd] at h;cases h
   ·rw[show 1 - lastP p l=b from by omega]
 | false =>
   refine⟨fun _ => ?_,by simp⟩
   simp only[Bool.false_eq_true,if_false]
   rw[fxPut_snoc]
   cases hs:(fgS E A p l).last with
   | true =>
     obtain⟨j1,j2⟩:=i2 hs
     rw[j1,if_pos rfl]
     conv=>rhs;rw[<- j2]
     simp
   | false =>
     rw[hd,hs] at hdue
     rw[Bool.not_false,Bool.true_and] at hdue
     rw[<- hdue,i1 hs]
     simp
theorem fg_turned {E:Nat} {A:Bool} {p:Nat} (hp:p<=1) {x:List Nat} {i y:Nat} (hx:∀ z∈x,z<=1) (ho:(fgS E A p x).ok=true) (hi:i < x.length) (hd:(fgS E A p (x.take i)).due=true) (hy:y<=1) (hne:y≠x.getD i 0):(fgS E A p (x.set i y)).ok=false:=by
 cases hq:(fgS E A p (x.set i y)).ok with
 | false=>rfl
 | true =>
   have h1:=hq
   rw[<- List.take_append_drop (i+1) (x.set i y)] at h1
   have h1:=fgS_ok_left _ _ _ _ _ h1
   have h2:=ho
   rw[<- List.take_append_drop (i+1) x] at h2
   have h2:=fgS_ok_left _ _ _ _ _ h2
   have e0:(x.set i y).take i=x.take i:=List.take_set_of_le (Nat.le_refl _)
   have e1:(x.set i y).take (i+1)=x.take i++[y]:=by
    rw[take_snoc' (x:=y) (by simp[hi]),e0]
   have e2:x.take (i+1)=x.take i++[x.getD i 0]:=take_snoc' (by simp[List.getD,List.getElem?_eq_getElem hi])
   have hpv:=fgS_prev E A p (x.take i)
   have hle:=lastP_le hp (l:=x.take i) (fun z hz=>hx z (List.mem_of_mem_take hz))
   have h4:x.getD i 0<=1:=hx _ (List.mem_of_getElem? (i:=i) (by simp[List.getD,List.getElem?_eq_getElem hi]))
   rw[e1,fgS_snoc] at h1
   rw[e2,fgS_snoc] at h2
   unfold fgStep at h1 h2
   simp only[hd,hpv,Bool.true_and,Bool.and_eq_true,Bool.not_eq_true',beq_eq_false_iff_ne] at h1 h2
   omega
theorem fg_count {E:Nat} {A:Bool} {p:Nat} (l:List Nat) (b:Nat):(fgS E A p (l++[b])).out.length=(fgS E A p l).out.length+(if (fgS E A p l).due then 0 else 1):=by
 rw[fgS_snoc]
 unfold fgStep
 simp only
 split<;>simp
theorem fx_parts {E:Nat} (A:Bool) (p:Nat) {l1:List Nat} (h1:0 < l1.length) (hm:l1.length%E=0) (l2:List Nat):fxPut E A p (l1++l2)=fxPut E A p l1++fxPut E true (lastP p (fxPut E A p l1)) l2:=by
 refine snocInd (P:=fun l2=>fxPut E A p (l1++l2)=fxPut E A p l1++fxPut E true (lastP p (fxPut E A p l1)) l2) (by simp[fxPut_nil]) (fun l2 b ih => ?_) l2
 rw[<- List.append_assoc,fxPut_snoc,ih,fxPut_snoc]
 have hd:dueF E A (l1++l2).length=dueF E true l2.length:=by
  unfold dueF
  rw[List.length_append,if_neg (by omega)]
  by_cases h0:l2.length=0
  ·rw[if_pos h0,h0,Nat.add_zero,hm];rfl
  ·rw[if_neg h0,Nat.add_mod,hm,Nat.zero_add,Nat.mod_mod]
 rw[hd,lastP_append]
 split<;>simp
end Go.Proofs.YtkofdbccdfpllaaDoor
namespace Go.Proofs.YtkofdbccdfpllaaDoor
set_option linter.unusedVariables false
set_option linter.unusedSimpArgs false
open Go.RowKit
theorem cast_sub1 {n:Nat} (h:n<=1):(1:Int) - (n:Int)=((1 - n:Nat):Int):=by omega
theorem cast_pred {n:Nat} (h:1<=n):(n:Int) - 1=((n - 1:Nat):Int):=by omega
def bgOk (p:Nat) (E:Int):Bool:=decide (p<=1)&&decide (1<=E)&&decide (E<=64)
end Go.Proofs.YtkofdbccdfpllaaDoor
namespace Go.Proofs.YtkofdbccdfpllaaDoor
set_option linter.unusedVariables false
set_option linter.unusedSimpArgs false
open Go.RowKit
def leftF (E:Nat) (A:Bool) (n:Nat):Nat:=if n=0 then (if A then 0 else E) else (E - n%E)%E
theorem leftF_zero (E:Nat) (A:Bool):leftF E A 0=if A then 0 else E:=rfl
theorem leftF_le {E:Nat} (A:Bool) (n:Nat):leftF E A n<=E:=by
 unfold leftF
 split
 ·split<;>omega
 ·by_cases h:E=0
  ·subst h;simp
  ·exact Nat.le_of_lt (Nat.mod_lt _ (by omega))
theorem leftF_due {E:Nat} (hE:1<=E) (A:Bool) (n:Nat):decide (leftF E A n=0)=dueF E A n:=by
 unfold leftF dueF
 by_cases h0:n=0
 ·rw[if_pos h0,if_pos h0]
  cases A with
  | true=>rfl
  | false=>simp;omega
 ·rw[if_neg h0,if_neg h0]
  have hlt:=Nat.mod_lt n (show 0 < E by omega)
  by_cases hm:n%E=0
  ·rw[hm,Nat.sub_zero,Nat.mod_self]
  ·rw[Nat.mod_eq_of_lt (by omega)]
   rw[decide_eq_false hm,decide_eq_false (by omega)]
theorem leftF_succ {E:Nat} (hE:1<=E) (A:Bool) (n:Nat):leftF E A (n+1)=(if dueF E A n then E else leftF E A n) - 1:=by
 unfold leftF dueF
 rw[if_neg (by omega)]
 have hlt:=Nat.mod_lt n (show 0 < E by omega)
 have hs:(n+1)%E=if n%E+1=E then 0 else n%E+1:=by
  rw[Nat.add_mod]
  by_cases h1:E=1
  ·subst h1;simp[Nat.mod_one]
  ·rw[Nat.mod_eq_of_lt (show 1 < E by omega)]
   by_cases h:n%E+1=E
   ·rw[if_pos h,h,Nat.mod_self]
   ·rw[if_neg h,Nat.mod_eq_of_lt (by omega)]
 rw[hs]
 by_cases h0:n=0
 ·subst h0
  rw[Nat.zero_mod,if_pos rfl]
  have e:(if (if 0=0 then A else decide True)=true then E else (if 0=0 then (if A=true then 0 else E) else (E - 0)%E)) - 1=E - 1:=by cases A<;>simp
  by_cases h1:0+1=E
  ·rw[if_pos h1,Nat.sub_zero,Nat.mod_self]
   cases A<;>simp<;>omega
  ·rw[if_neg h1,Nat.mod_eq_of_lt (by omega)]
   cases A<;>simp
 ·rw[if_neg h0,if_neg h0]
  by_cases hm:n%E=0
  ·simp only[hm,decide_true,if_true]
   by_cases h1:0+1=E
   ·rw[if_pos h1,Nat.sub_zero,Nat.mod_self];omega
   ·rw[if_neg h1,Nat.mod_eq_of_lt (by omega)]
  ·simp only[hm,decide_false,Bool.false_eq_true,if_false]
   rw[Nat.mod_eq_of_lt (show E - n%E < E by omega)]
   by_cases h1:n%E+1=E
   ·rw[if_pos h1,Nat.sub_zero,Nat.mod_self];omega
   ·rw[if_neg h1,Nat.mod_eq_of_lt (by omega)];omega
theorem leftF_pos {E:Nat} (hE:1<=E) {A:Bool} {n:Nat} (h:dueF E A n=false):1<=leftF E A n:=by
 have:=leftF_due hE A n
 rw[h] at this
 have:=of_decide_eq_false this
 omega
theorem szF_zero (E:Nat) (A:Bool):szF E A 0=0:=rfl
theorem szF_succ {E:Nat} (A:Bool) (n:Nat):szF E A (n+1)=szF E A n+1+(if dueF E A n then 1 else 0):=by
 unfold szF dueF
 by_cases h0:n=0
 ·rw[if_neg (by omega),if_pos h0,if_pos h0,h0]
  cases A<;>simp
 ·rw[if_neg (by omega),if_neg h0,if_neg h0,Nat.add_sub_cancel,div_step (by omega:0 < n)]
  by_cases hm:n%E=0
  ·simp[hm];omega
  ·simp[hm];omega
theorem szF_le (E:Nat) (A:Bool) (n:Nat):szF E A n<=2*n+1:=by
 unfold szF
 split
 ·omega
 ·have:=Nat.div_le_self (n - 1) E
  have:=Bool.toNat_le A
  omega
theorem szF_le2 (E:Nat) (A:Bool) (n:Nat):szF E A n<=2*n:=by
 unfold szF
 split
 ·omega
 ·have:=Nat.div_le_self (n - 1) E
  have:=Bool.toNat_le A
  omega
theorem szF_ge (E:Nat) (A:Bool) (n:Nat):n<=szF E A n:=by
 unfold szF
 generalize (n - 1) / E=q
 split<;>omega
def leftG (E:Nat) (A:Bool) (s:FxS):Nat:=if s.last then E else leftF E A s.out.length
theorem fgS_last (E:Nat) (A:Bool) (p:Nat) (l:List Nat):(fgS E A p l).last=true->dueF E A (fgS E A p l).out.length=true:=by
 refine snocInd (P:=fun l=>(fgS E A p l).last=true->dueF E A (fgS E A p l).out.length=true) (by simp[fgS]) (fun l b _ => ?_) l
 have hd:=fgS_due E A p l
 rw[fgS_snoc]
 unfold fgStep
 simp only
 intro h
 rw[h] at hd
 rw[if_pos h]
 have:=hd.symm
 rw[Bool.and_eq_true] at this
 exact this.2
theorem leftG_due {E:Nat} (hE:1<=E) (A:Bool) (p:Nat) (l:List Nat):decide (leftG E A (fgS E A p l)=0)=(fgS E A p l).due:=by
 rw[fgS_due]
 unfold leftG
 cases (fgS E A p l).last with
 | true=>simp;omega
 | false=>simp only[Bool.false_eq_true,if_false,Bool.not_false,Bool.true_and];exact leftF_due hE A _
theorem leftG_pos {E:Nat} (hE:1<=E) {A:Bool} {p:Nat} {l:List Nat} (h:(fgS E A p l).due=false):1<=leftG E A (fgS E A p l):=by
 have:=leftG_due hE A p l
 rw[h] at this
 have:=of_decide_eq_false this
 omega
theorem leftG_le {E:Nat} (A:Bool) (s:FxS):leftG E A s<=E:=by
 unfold leftG
 split
 ·exact Nat.le_refl _
 ·exact leftF_le A _
theorem leftG_stuff {E:Nat} {A:Bool} {p:Nat} {l:List Nat} (b:Nat) (h:(fgS E A p l).due=true):leftG E A (fgS E A p (l++[b]))=E:=by
 rw[fgS_snoc]
 unfold leftG fgStep
 simp only[h,if_true]
theorem leftG_plain {E:Nat} (hE:1<=E) {A:Bool} {p:Nat} {l:List Nat} (b:Nat) (h:(fgS E A p l).due=false):leftG E A (fgS E A p (l++[b]))=leftG E A (fgS E A p l) - 1:=by
 have hl:=fgS_last E A p l
 have hd:=fgS_due E A p l
 rw[h] at hd
 rw[fgS_snoc]
 unfold leftG fgStep
 simp only[h,Bool.false_eq_true,if_false,List.length_append,List.length_singleton]
 rw[leftF_succ hE]
 cases hs:(fgS E A p l).last with
 | true=>rw[hl hs]
 | false =>
   rw[hs] at hd
   rw[<- (by simpa using hd:false=dueF E A (fgS E A p l).out.length)]
def tallyL (n:Nat):List Nat:=bitsN ((2*(n%8)) ^^^ (n%8)) 4
theorem tallyL_mod (n:Nat):tallyL n=tallyL (n%8):=by unfold tallyL;rw[Nat.mod_mod]
def tellS (l:List Nat):Nat × Nat:=l.foldl (fun s b=>(2*s.1+(s.2+b)%2,(s.2+b)%2)) (0,0)
theorem tellS_snoc (l:List Nat) (b:Nat):tellS (l++[b])=(2*(tellS l).1+((tellS l).2+b)%2,((tellS l).2+b)%2):=by simp[tellS]
theorem tellS_odd (l:List Nat):(tellS l).2<=1:=by
 refine snocInd (P:=fun l=>(tellS l).2<=1) (by simp[tellS]) (fun l b _ => ?_) l
 rw[tellS_snoc]
 simp only
 omega
theorem tellS_lt (l:List Nat):(tellS l).1 < 2^l.length:=by
 refine snocInd (P:=fun l=>(tellS l).1 < 2^l.length) (by simp[tellS]) (fun l b ih => ?_) l
 rw[tellS_snoc,List.length_append,List.length_singleton,Nat.pow_succ]
 simp only
 omega
theorem four_bits {l:List Nat} (h4:l.length=4) (hb:∀ x∈l,x<=1):∃ a b c d,l=[a,b,c,d]/\a<=1/\b<=1/\c<=1/\d<=1:=by
 match l,h4 with
 | [a,b,c,d],_=>exact⟨a,b,c,d,rfl,hb a (by simp),hb b (by simp),hb c (by simp),hb d (by simp)⟩
def tlOk (l:List Nat):Bool:=decide (l.length=4)&&chk l
def tlE (l:List Nat):Nat:=if tlOk l then (if (tellS l).2=1 then 6 else 0) else 2
def tlN (l:List Nat):Nat:=if tlE l=0 then (tellS l).1 / 2 else 0
theorem tl_four {l:List Nat} (h4:l.length=4) (hb:∀ x∈l,x<=1):(∀ k,k < 8->(l=tallyL k↔(tellS l).2=0/\(tellS l).1 / 2=k))/\((tellS l).2=0->(tellS l).1 / 2 < 8):=by
 obtain⟨a,b,c,d,rfl,ha,hb,hc,hd⟩:=four_bits h4 hb
 rcases (by omega:a=0\/a=1) with rfl | rfl<;>rcases (by omega:b=0\/b=1) with rfl | rfl<;>rcases (by omega:c=0\/c=1) with rfl | rfl<;>rcases (by omega:d=0\/d=1) with rfl | rfl<;>decide
theorem tallyL_len (n:Nat):(tallyL n).length=4:=bitsN_length _ _
theorem tallyL_bit (n:Nat):∀ x∈tallyL n,x<=1:=fun x hx=>by have:=bitsN_lt _ _ x hx;omega
theorem tallyL_tells (n:Nat):tlE (tallyL n)=0/\tlN (tallyL n)=n%8:=by
 have h:=(tl_four (tallyL_len n) (tallyL_bit n)).1 (n%8) (Nat.mod_lt _ (by omega))
 have h:=h.1 (tallyL_mod n)
 have ho:tlOk (tallyL n)=true:=by
  simp only[tlOk,tallyL_len,decide_true,Bool.true_and,chk,Bool.and_eq_true,decide_eq_true_eq,List.all_eq_true]
  exact⟨by omega,tallyL_bit n⟩
 have e:tlE (tallyL n)=0:=by simp[tlE,ho,h.1]
 exact⟨e,by simp[tlN,e,h.2]⟩
theorem tally_turned (n k:Nat) (hk:k < 4):tlE ((tallyL n).set k ((tallyL n).getD k 0 ^^^ 1))=6:=by
 rw[tallyL_mod]
 have h8:=Nat.mod_lt n (show 0 < 8 by omega)
 generalize n%8=r at *
 rcases (by omega:k=0\/k=1\/k=2\/k=3) with rfl | rfl | rfl | rfl <;>
  rcases (by omega:r=0\/r=1\/r=2\/r=3\/r=4\/r=5\/r=6\/r=7) with rfl | rfl | rfl | rfl | rfl | rfl | rfl | rfl<;>decide
def dif (a b:List Nat) (k:Nat):Nat:=(List.range k).countP fun i=>a.getD i 0 != b.getD i 0
theorem dif_succ (a b:List Nat) (k:Nat):dif a b (k+1)=dif a b k+(if a.getD k 0=b.getD k 0 then 0 else 1):=by
 unfold dif
 rw[List.range_succ,List.countP_append]
 congr 1
 by_cases h:a.getD k 0=b.getD k 0
 ·rw[if_pos h,List.countP_singleton,if_neg (by rw[h];simp)]
 ·rw[if_neg h,List.countP_singleton,if_pos (by rw[bne_iff_ne];exact h)]
theorem dif_le (a b:List Nat) (k:Nat):dif a b k<=k:=by
 unfold dif
 have:=List.countP_le_length (p:=fun i=>a.getD i 0 != b.getD i 0) (l:=List.range k)
 rwa[List.length_range] at this
theorem dif_tally (n:Nat):dif (tallyL n) (tallyL (n+1)) 4=2:=by
 rw[tallyL_mod n,tallyL_mod (n+1),Nat.add_mod]
 have h8:=Nat.mod_lt n (show 0 < 8 by omega)
 generalize n%8=r at *
 rcases (by omega:r=0\/r=1\/r=2\/r=3\/r=4\/r=5\/r=6\/r=7) with rfl | rfl | rfl | rfl | rfl | rfl | rfl | rfl<;>decide
end Go.Proofs.YtkofdbccdfpllaaDoor
namespace Go.Proofs.YtkofdbccdfpllaaDoor
set_option linter.unusedVariables false
set_option linter.unusedSimpArgs false
open Go.RowKit
def fzOk (n E:Int):Bool:=bgOk 0 E&&decide (0<=n)&&decide (n<=65536)
def fzE (n E:Int):Nat:=if fzOk n E then 0 else 2
def fzN (n E:Int) (A:Bool):Nat:=if fzOk n E then szF E.toNat A n.toNat else 0
theorem bgOk_nat {p:Nat} {E:Int} (h:bgOk p E=true):∃ m:Nat,E=m/\1<=m/\m<=64/\p<=1:=by
 simp only[bgOk,Bool.and_eq_true,decide_eq_true_eq] at h
 obtain⟨m,rfl⟩:=Int.eq_ofNat_of_zero_le (by omega:0<=E)
 exact⟨m,rfl,by omega,by omega,h.1.1⟩
theorem bgOk_of {p E:Nat} (hp:p<=1) (h1:1<=E) (h2:E<=64):bgOk p E=true:=by
 simp only[bgOk,Bool.and_eq_true,decide_eq_true_eq]
 omega
def fpOk (p:Nat) (l:List Nat) (E:Int) (A:Bool):Bool:=bgOk p E&&chk l&&decide (szF E.toNat A l.length<=65536)
def fpE (p:Nat) (l:List Nat) (E:Int) (A:Bool):Nat:=if fpOk p l E A then 0 else 2
def fpL (p:Nat) (l:List Nat) (E:Int) (A:Bool):List Nat:=if fpOk p l E A then fxPut E.toNat A p l else []
end Go.Proofs.YtkofdbccdfpllaaDoor
namespace Go.Proofs.YtkofdbccdfpllaaDoor
set_option linter.unusedVariables false
set_option linter.unusedSimpArgs false
open Go.RowKit
def tyE (n:Int):Nat:=if n < 0 then 2 else 0
def tyL (n:Int):List Nat:=if n < 0 then [] else tallyL n.toNat
theorem gray (r:Nat) (h:r < 8):bits BinOp.xor IntKind.u64 ((r:Int)*2) (r:Int)=(((2*r) ^^^ r:Nat):Int)/\((2*r) ^^^ r) < 2^4:=by
 rcases (by omega:r=0\/r=1\/r=2\/r=3\/r=4\/r=5\/r=6\/r=7) with rfl | rfl | rfl | rfl | rfl | rfl | rfl | rfl<;>decide +kernel
theorem xor01 (o b:Nat) (ho:o<=1) (hb:b<=1):bits BinOp.xor IntKind.i64 (o:Int) (b:Int)=(((o+b)%2:Nat):Int):=by
 rcases (by omega:o=0\/o=1) with rfl | rfl<;>rcases (by omega:b=0\/b=1) with rfl | rfl<;>decide +kernel
theorem or01 (t o:Nat) (ht:t < 8) (ho:o<=1):bits BinOp.or IntKind.i64 ((t:Int)*2) (o:Int)=((2*t+o:Nat):Int):=by
 rcases (by omega:o=0\/o=1) with rfl | rfl<;>rcases (by omega:t=0\/t=1\/t=2\/t=3\/t=4\/t=5\/t=6\/t=7) with rfl | rfl | rfl | rfl | rfl | rfl | rfl | rfl<;>decide +kernel
end Go.Proofs.YtkofdbccdfpllaaDoor
