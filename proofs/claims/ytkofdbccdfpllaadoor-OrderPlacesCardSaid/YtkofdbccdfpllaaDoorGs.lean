/- Bits with stuff bits, and what they tell, as functions on lists. No conditions. Contracts of the states of package stuff: a run, a writer, each bit handed on. No conditions but sizes below 2 to the 46. Contracts of package stuff's reader, of read and readAll. No conditions but sizes below 2 to the 46. Contracts of package stuff's read and readAll. Condition: at most 65,536 bits are wanted, or as many as the row has. Contracts of package stuff's readAll, Get, Count and Take. No conditions. Contracts of package stuff's Get, Count and Take. No conditions. What is put is got, in the words of the answers. No conditions but sizes. -/
import Derived.Test.YtkofdbccdfpllaaDoorGa
import Derived.RegionTactic
namespace Go.Proofs.YtkofdbccdfpllaaDoor
set_option linter.unusedVariables false
set_option linter.unusedSimpArgs false
open Go.RowKit
theorem snocInd {P:List Nat->Prop} (h0:P []) (hs:∀ l b,P l->P (l++[b])):∀ l,P l:=by
 intro l
 rw[<- List.reverse_reverse l]
 induction l.reverse with
 | nil=>exact h0
 | cons b l ih=>rw[List.reverse_cons];exact hs _ _ ih
def stepR (r:Nat × Nat) (b:Nat):Nat × Nat:=if b=r.1 then (r.1,r.2+1) else (b,1)
def runS (l:List Nat):Nat × Nat:=l.foldl stepR (0,0)
theorem runS_snoc (l:List Nat) (b:Nat):runS (l++[b])=stepR (runS l) b:=by simp[runS]
theorem runS_nil:runS []=(0,0):=rfl
def full (l:List Nat):Bool:=decide (5<=(runS l).2)
def lastB (l:List Nat):Nat:=(runS l).1
theorem full_nil:full []=false:=rfl
theorem lastB_snoc (l:List Nat) (b:Nat):lastB (l++[b])=b:=by
 unfold lastB
 rw[runS_snoc]
 unfold stepR
 split
 ·exact Eq.symm ‹_›
 ·rfl
theorem full_len (l:List Nat):(runS l).2<=l.length:=by
 refine snocInd (P:=fun l=>(runS l).2<=l.length) (by simp[runS]) (fun l b ih => ?_) l
 rw[runS_snoc]
 unfold stepR
 rw[List.length_append,List.length_singleton]
 split
 ·simp only;omega
 ·simp only;omega
theorem lastB_getD (l:List Nat):lastB l=l.getD (l.length - 1) 0:=by
 refine snocInd (P:=fun l=>lastB l=l.getD (l.length - 1) 0) rfl (fun l b _ => ?_) l
 rw[lastB_snoc]
 simp
theorem isRun_runS (l:List Nat):IsRun l (runS l).2:=by
 refine snocInd (P:=fun l=>IsRun l (runS l).2) ⟨by simp[runS],by simp,by simp[runS]⟩ (fun l b ih => ?_) l
 have hlast:=lastB_getD l
 unfold lastB at hlast
 obtain⟨h1,h2,h3⟩:=ih
 have hN:(l++[b]).length - 1=l.length:=by simp
 have hb:(l++[b]).getD l.length 0=b:=by simp
 have hl:∀ j,j < l.length->(l++[b]).getD j 0=l.getD j 0:=fun j hj=>by
  simp[List.getD,List.getElem?_append_left hj]
 unfold IsRun
 rw[hN,hb,runS_snoc]
 unfold stepR
 rw[List.length_append,List.length_singleton]
 by_cases he:b=(runS l).1
 ·rw[if_pos he]
  refine⟨by simp only;omega,fun j hj => ?_,fun hk => ?_⟩
  ·simp only at hj
   by_cases hj0:j=0
   ·subst hj0;simp
   ·rw[hl _ (by omega),show l.length - j=l.length - 1 - (j - 1) from by omega,h2 (j - 1) (by omega),<- hlast,<- he]
  ·simp only at hk ⊢
   rw[hl _ (by omega),show l.length - ((runS l).2+1)=l.length - 1 - (runS l).2 from by omega]
   have:=h3 (by omega)
   rwa[<- hlast,<- he] at this
 ·rw[if_neg he]
  refine⟨by simp only;omega,fun j hj => ?_,fun hk => ?_⟩
  ·simp only at hj
   obtain rfl:j=0:=by omega
   simp
  ·simp only at hk ⊢
   rw[hl _ (by omega)]
   rw[<- hlast]
   exact fun h=>he h.symm
theorem full_iff (l:List Nat):full l=true↔5<=l.length/\∀ j,j < 5->l.getD (l.length - 1 - j) 0=l.getD (l.length - 1) 0:=by
 obtain⟨h1,h2,h3⟩:=isRun_runS l
 unfold full
 rw[decide_eq_true_eq]
 constructor
 ·intro h
  exact⟨by omega,fun j hj=>h2 j (by omega)⟩
 ·rintro⟨h4,h5⟩
  by_cases hk:(runS l).2 < 5
  ·exact absurd (h5 _ hk) (h3 (by omega))
  ·omega
def putStep (raw:List Nat) (b:Nat):List Nat:=if full raw then raw++[1 - lastB raw,b] else raw++[b]
def putL (l:List Nat):List Nat:=l.foldl putStep []
theorem putL_snoc (l:List Nat) (b:Nat):putL (l++[b])=putStep (putL l) b:=by simp[putL]
theorem putL_nil:putL []=[]:=rfl
theorem lastB_le {l:List Nat} (h:∀ x∈l,x<=1):lastB l<=1:=by
 rw[lastB_getD]
 by_cases hl:l=[]
 ·subst hl;simp
 ·have hp:l.length - 1 < l.length:=by have:=List.length_pos_iff.2 hl;omega
  have:l[l.length - 1]? = some (l.getD (l.length - 1) 0):=by simp[List.getD,List.getElem?_eq_getElem hp]
  exact h _ (List.mem_of_getElem? this)
theorem full_other {l:List Nat} (h:lastB l<=1):full (l++[1 - lastB l])=false/\(runS (l++[1 - lastB l])).2=1:=by
 have:(runS (l++[1 - lastB l])).2=1:=by
  rw[runS_snoc]
  unfold stepR lastB at *
  rw[if_neg (by omega)]
 exact⟨by unfold full;rw[this];rfl,this⟩
theorem putL_bit {l:List Nat}:(∀ x∈l,x<=1)->∀ x∈putL l,x<=1:=by
 refine snocInd (P:=fun l=>(∀ x∈l,x<=1)->∀ x∈putL l,x<=1) (by simp[putL]) (fun l b ih hl => ?_) l
 have ih:=ih (fun x hx=>hl x (by simp[hx]))
 have hb:=hl b (by simp)
 rw[putL_snoc]
 unfold putStep
 split
 ·intro x hx
  rcases List.mem_append.1 hx with h | h
  ·exact ih x h
  ·simp at h
   omega
 ·intro x hx
  rcases List.mem_append.1 hx with h | h
  ·exact ih x h
  ·simp at h
   omega
theorem putL_len2 (l:List Nat):(putL l).length<=2*l.length/\l.length<=(putL l).length:=by
 refine snocInd (P:=fun l=>(putL l).length<=2*l.length/\l.length<=(putL l).length) (by simp[putL]) (fun l b ih => ?_) l
 rw[putL_snoc]
 unfold putStep
 split<;>simp<;>omega
def tellStep (s:(Nat × Nat) × List Nat) (b:Nat):(Nat × Nat) × List Nat:=(stepR s.1 b,if 5<=s.1.2 then s.2 else s.2++[b])
def tell (l:List Nat):List Nat:=(l.foldl tellStep ((0,0),[])).2
theorem tell_fst (l:List Nat):(l.foldl tellStep ((0,0),[])).1=runS l:=by
 refine snocInd (P:=fun l=>(l.foldl tellStep ((0,0),[])).1=runS l) rfl (fun l b ih => ?_) l
 rw[runS_snoc,<- ih]
 simp[tellStep]
theorem tell_snoc (l:List Nat) (b:Nat):tell (l++[b])=if full l then tell l else tell l++[b]:=by
 have h:=tell_fst l
 unfold tell full
 rw[<- h]
 simp[tellStep]
theorem tell_nil:tell []=[]:=rfl
theorem tell_len (l:List Nat):(tell l).length<=l.length:=by
 refine snocInd (P:=fun l=>(tell l).length<=l.length) (by simp[tell]) (fun l b ih => ?_) l
 rw[tell_snoc]
 split<;>simp<;>omega
theorem tell_bit {l:List Nat}:(∀ x∈l,x<=1)->∀ x∈tell l,x<=1:=by
 refine snocInd (P:=fun l=>(∀ x∈l,x<=1)->∀ x∈tell l,x<=1) (by simp[tell]) (fun l b ih hl => ?_) l
 have ih:=ih (fun x hx=>hl x (by simp[hx]))
 have hb:=hl b (by simp)
 rw[tell_snoc]
 split
 ·exact ih
 ·intro x hx
  rcases List.mem_append.1 hx with h | h
  ·exact ih x h
  ·simp at h
   omega
def lastS (l:List Nat):Bool := !l.isEmpty&&full l.dropLast
theorem lastS_snoc (l:List Nat) (b:Nat):lastS (l++[b])=full l:=by simp[lastS]
def okStep (s:(Nat × Nat) × Bool) (b:Nat):(Nat × Nat) × Bool:=(stepR s.1 b,s.2 && !(decide (5<=s.1.2)&&b==s.1.1))
def okS (l:List Nat):Bool:=(l.foldl okStep ((0,0),true)).2
theorem okS_fst (l:List Nat):(l.foldl okStep ((0,0),true)).1=runS l:=by
 refine snocInd (P:=fun l=>(l.foldl okStep ((0,0),true)).1=runS l) rfl (fun l b ih => ?_) l
 rw[runS_snoc,<- ih]
 simp[okStep]
theorem okS_snoc (l:List Nat) (b:Nat):okS (l++[b])=(okS l && !(full l&&b==lastB l)):=by
 have h:=okS_fst l
 unfold okS full lastB
 rw[<- h]
 simp[okStep]
theorem okS_nil:okS []=true:=rfl
theorem okS_left {l:List Nat} (m:List Nat):okS (l++m)=true->okS l=true:=by
 refine snocInd (P:=fun m=>okS (l++m)=true->okS l=true) (by simp) (fun m b ih h => ?_) m
 rw[<- List.append_assoc,okS_snoc] at h
 simp at h
 exact ih h.1
theorem okS_take {l:List Nat} (h:okS l=true) (k:Nat):okS (l.take k)=true:=by
 rw[<- List.take_append_drop k l] at h
 exact okS_left _ h
theorem okS_run {l:List Nat}:okS l=true->(runS l).2<=5:=by
 refine snocInd (P:=fun l=>okS l=true->(runS l).2<=5) (by simp[runS]) (fun l b ih h => ?_) l
 rw[okS_snoc] at h
 simp only[Bool.and_eq_true,Bool.not_eq_true',Bool.and_eq_false_iff,beq_eq_false_iff_ne] at h
 obtain⟨h1,h2⟩:=h
 have h3:=ih h1
 rw[runS_snoc]
 unfold stepR
 split
 ·rename_i he
  rcases h2 with h2 | h2
  ·simp[full] at h2
   simp only
   omega
  ·exact absurd he h2
 ·simp
theorem okS_putL {l:List Nat}:(∀ x∈l,x<=1)->okS (putL l)=true:=by
 refine snocInd (P:=fun l=>(∀ x∈l,x<=1)->okS (putL l)=true) (by simp[putL,okS]) (fun l b ih hl => ?_) l
 have hl':∀ x∈l,x<=1:=fun x hx=>hl x (by simp[hx])
 have ih:=ih hl'
 have h1:=lastB_le (putL_bit hl')
 rw[putL_snoc]
 unfold putStep
 split
 ·rw[show putL l++[1 - lastB (putL l),b]=(putL l++[1 - lastB (putL l)])++[b] from by simp,okS_snoc,okS_snoc,(full_other h1).1,ih]
  simp
  omega
 ·rw[okS_snoc,ih]
  simp[*]
theorem tell_putL {l:List Nat}:(∀ x∈l,x<=1)->tell (putL l)=l/\lastS (putL l)=false:=by
 refine snocInd (P:=fun l=>(∀ x∈l,x<=1)->tell (putL l)=l/\lastS (putL l)=false) (by simp[putL,tell,lastS]) (fun l b ih hl => ?_) l
 have hl':∀ x∈l,x<=1:=fun x hx=>hl x (by simp[hx])
 have ih:=(ih hl').1
 have h1:=lastB_le (putL_bit hl')
 rw[putL_snoc]
 unfold putStep
 split
 ·rename_i hf
  rw[show putL l++[1 - lastB (putL l),b]=(putL l++[1 - lastB (putL l)])++[b] from by simp,tell_snoc,tell_snoc,lastS_snoc,(full_other h1).1,hf,ih]
  simp
 ·rename_i hf
  rw[tell_snoc,lastS_snoc,ih]
  simp[hf]
theorem putL_tell {l:List Nat}:(∀ x∈l,x<=1)->okS l=true->(lastS l=false->putL (tell l)=l)/\(lastS l=true->full (putL (tell l))=true/\putL (tell l)++[1 - lastB (putL (tell l))]=l):=by
 refine snocInd (P:=fun l=>(∀ x∈l,x<=1)->okS l=true->(lastS l=false->putL (tell l)=l)/\(lastS l=true->full (putL (tell l))=true/\putL (tell l)++[1 - lastB (putL (tell l))]=l)) (by simp[putL,tell,lastS]) (fun l b ih hl ho => ?_) l
 have hl':∀ x∈l,x<=1:=fun x hx=>hl x (by simp[hx])
 have hb:=hl b (by simp)
 have h1:=lastB_le hl'
 rw[okS_snoc] at ho
 simp only[Bool.and_eq_true,Bool.not_eq_true',Bool.and_eq_false_iff,beq_eq_false_iff_ne] at ho
 obtain⟨i1,i2⟩:=ih hl' ho.1
 rw[lastS_snoc,tell_snoc]
 cases hf:full l with
 | true =>
   refine⟨by simp,fun _ => ?_⟩
   have hs:lastS l=false:=by
    cases hs:lastS l with
    | false=>rfl
    | true =>
      obtain⟨_,j2⟩:=i2 hs
      have h3:=lastB_le (putL_bit (tell_bit hl'))
      have:=(full_other h3).1
      rw[j2,hf] at this
      cases this
   rw[if_pos rfl,i1 hs]
   refine⟨hf,?_⟩
   rcases ho.2 with h | h
   ·rw[hf] at h;cases h
   ·rw[show 1 - lastB l=b from by omega]
 | false =>
   refine⟨fun _ => ?_,by simp⟩
   simp only[Bool.false_eq_true,if_false]
   rw[putL_snoc]
   unfold putStep
   cases hs:lastS l with
   | false=>rw[i1 hs,hf];simp
   | true =>
     obtain⟨j1,j2⟩:=i2 hs
     rw[j1,if_pos rfl]
     conv=>rhs;rw[<- j2]
     simp
def readG (n:Nat):List Nat->List Nat->List Nat × Bool
 | pre,[]=>(pre,false)
 | pre,b::rest=>if (tell pre).length=n then (pre,false) else if (full pre&&b==lastB pre)=true then (pre,true) else readG n (pre++[b]) rest
theorem readG_whole (n:Nat):∀ (rest pre:List Nat),(pre++rest).length<=n->okS pre=true->if okS (pre++rest) then readG n pre rest=(pre++rest,false) else (readG n pre rest).2=true:=by
 intro rest
 induction rest with
 | nil=>intro pre _ ho;simp[readG,ho]
 | cons b rest ih =>
   intro pre hn ho
   have hlt:pre.length < n:=by simp at hn;omega
   have:=tell_len pre
   have hne:¬(tell pre).length=n:=by omega
   have e:readG n pre (b::rest)=if (full pre&&b==lastB pre)=true then (pre,true) else readG n (pre++[b]) rest:=by rw[readG,if_neg hne]
   rw[e]
   by_cases hx:(full pre&&b==lastB pre)=true
   ·rw[if_pos hx]
    have:okS (pre++b::rest)=false:=by
     cases hq:okS (pre++b::rest) with
     | false=>rfl
     | true =>
       rw[show pre++b::rest=(pre++[b])++rest from by simp] at hq
       have:=okS_left _ hq
       rw[okS_snoc,hx] at this
       simp at this
    simp[this]
   ·rw[if_neg hx]
    have hx':(full pre&&b==lastB pre)=false:=by simpa using hx
    have:=ih (pre++[b]) (by simpa using hn) (by rw[okS_snoc,ho,hx'];rfl)
    simpa using this
theorem readG_all (l:List Nat):if okS l then readG l.length [] l=(l,false) else (readG l.length [] l).2=true:=by
 have:=readG_whole l.length l [] (by simp) rfl
 simpa using this
theorem foldl_put (l:List Nat):∀ raw:List Nat,∃ Y,l.foldl putStep raw=raw++Y:=by
 induction l with
 | nil=>intro raw;exact⟨[],by simp⟩
 | cons b l ih =>
   intro raw
   obtain⟨Y,hY⟩:=ih (putStep raw b)
   rw[List.foldl_cons,hY]
   unfold putStep
   split
   ·exact⟨[1 - lastB raw,b]++Y,by simp⟩
   ·exact⟨[b]++Y,by simp⟩
theorem putL_append (l m:List Nat):∃ Y,putL (l++m)=putL l++Y:=by
 obtain⟨Y,hY⟩:=foldl_put m (putL l)
 exact⟨Y,by rw[<- hY];simp[putL]⟩
theorem readG_put (k:Nat) (more:List Nat):∀ (l2 l1 X:List Nat),(∀ x∈l1++l2,x<=1)->putL l1++X=putL (l1++l2)++more->l1.length<=k->(k<=(l1++l2).length\/more=[]) ->
    readG k (putL l1) X=(putL ((l1++l2).take k),false):=by
 intro l2
 induction l2 with
 | nil =>
   intro l1 X hb hX h1 h2
   rw[List.append_nil] at *
   have hXm:X=more:=List.append_cancel_left hX
   subst hXm
   rw[List.take_of_length_le h1]
   rcases h2 with h2 | rfl
   ·cases X with
    | nil=>rfl
    | cons x X =>
      unfold readG
      rw[(tell_putL hb).1,if_pos (by omega)]
   ·rfl
 | cons b l2 ih =>
   intro l1 X hb hX h1 h2
   have hb1:∀ x∈l1,x<=1:=fun x hx=>hb x (by simp[hx])
   have ht:=(tell_putL hb1).1
   by_cases hk:l1.length=k
   ·rw[List.take_append_of_le_length (by omega),List.take_of_length_le (by omega)]
    cases X with
    | nil=>rfl
    | cons x X =>
      unfold readG
      rw[ht,if_pos hk]
   ·have hl:=lastB_le (putL_bit hb1)
    have e1:l1++b::l2=(l1++[b])++l2:=by simp
    obtain⟨Y,hY⟩:=putL_append (l1++[b]) l2
    have IH:=ih (l1++[b]) (Y++more) (by rw[<- e1];exact hb) (by rw[hY];simp) (by simp;omega) (by rw[<- e1];exact h2)
    rw[<- e1] at IH
    rw[e1,hY,putL_snoc] at hX
    rw[putL_snoc] at IH
    rw[<- IH]
    unfold putStep at hX ⊢
    cases hf:full (putL l1) with
    | true =>
      rw[hf] at hX
      simp only[if_true] at hX ⊢
      have hXX:X=(1 - lastB (putL l1))::b::(Y++more):=by
       have:putL l1++X=putL l1++((1 - lastB (putL l1))::b::(Y++more)):=by rw[hX];simp
       exact List.append_cancel_left this
      subst hXX
      have hne:((1 - lastB (putL l1))==lastB (putL l1))=false:=by rw[beq_eq_false_iff_ne];omega
      have hto:=tell_snoc (putL l1) (1 - lastB (putL l1))
      rw[hf,if_pos rfl,ht] at hto
      rw[readG,ht,if_neg hk,hne,Bool.and_false,if_neg (by simp),readG,hto,if_neg hk,(full_other hl).1,Bool.false_and,if_neg (by simp)]
      simp
    | false =>
      rw[hf] at hX
      simp only[Bool.false_eq_true,if_false] at hX ⊢
      have hXX:X=b::(Y++more):=by
       have:putL l1++X=putL l1++(b::(Y++more)):=by rw[hX];simp
       exact List.append_cancel_left this
      subst hXX
      rw[readG,ht,if_neg hk,hf,Bool.false_and,if_neg (by simp)]
theorem readG_parts {l:List Nat} (hl:∀ x∈l,x<=1) (more:List Nat) {k:Nat} (hk:k<=l.length):readG k [] (putL l++more)=(putL (l.take k),false):=by
 have:=readG_put k more l [] (putL l++more) (by simpa using hl) (by simp[putL_nil]) (by simp) (by simp;omega)
 simpa [putL_nil] using this
theorem putL_most {l:List Nat}:(∀ x∈l,x<=1)->4*((putL l).length - l.length)+(runS (putL l)).2<=l.length/\(l≠[]->0 < (runS (putL l)).2):=by
 refine snocInd (P:=fun l=>(∀ x∈l,x<=1)->4*((putL l).length - l.length)+(runS (putL l)).2<=l.length/\(l≠[]->0 < (runS (putL l)).2)) (by simp[putL,runS]) (fun l b ih hl => ?_) l
 have hl':∀ x∈l,x<=1:=fun x hx=>hl x (by simp[hx])
 obtain⟨ih1,ih2⟩:=ih hl'
 have h1:=lastB_le (putL_bit hl')
 have h2:=putL_len2 l
 rw[putL_snoc]
 unfold putStep
 split
 ·rename_i hf
  have hf5:5<=(runS (putL l)).2:=by simpa [full] using hf
  rw[show putL l++[1 - lastB (putL l),b]=(putL l++[1 - lastB (putL l)])++[b] from by simp,runS_snoc]
  have:=(full_other h1).2
  simp only[List.length_append,List.length_singleton]
  unfold stepR
  split<;>simp only<;>(refine⟨?_,fun _ => ?_⟩)<;>omega
 ·rw[runS_snoc]
  simp only[List.length_append,List.length_singleton]
  unfold stepR
  split
  ·simp only
   refine⟨?_,fun _ => ?_⟩<;>omega
  ·simp only
   refine⟨?_,fun _=>by omega⟩
   by_cases hn:l=[]
   ·subst hn;simp[putL]
   ·have:=ih2 hn
    omega
theorem tell_none {l:List Nat}:(∀ k,k < l.length->full (l.take k)=false)->tell l=l:=by
 refine snocInd (P:=fun l=>(∀ k,k < l.length->full (l.take k)=false)->tell l=l) (by simp[tell]) (fun l b ih h => ?_) l
 have h1:=h l.length (by simp)
 rw[List.take_append_of_le_length (Nat.le_refl _),List.take_of_length_le (Nat.le_refl _)] at h1
 rw[tell_snoc,h1,ih (fun k hk=>by have:=h k (by simp;omega);rwa[List.take_append_of_le_length (by omega)] at this)]
 rfl
theorem putL_full {l:List Nat} (hl:∀ x∈l,x<=1) (hne:(putL l).length≠l.length):∃ k,k < (putL l).length/\full ((putL l).take k)=true:=by
 by_cases h:∃ k,k < (putL l).length/\full ((putL l).take k)=true
 ·exact h
 ·have:=tell_none (l:=putL l) (fun k hk=>by
   cases hf:full ((putL l).take k) with
   | false=>rfl
   | true=>exact absurd ⟨k,hk,hf⟩ h)
  rw[(tell_putL hl).1] at this
  rw[<- this] at hne
  exact absurd rfl hne
theorem okS_turned {x:List Nat} {i y:Nat} (hx:∀ z∈x,z<=1) (ho:okS x=true) (hi:i < x.length) (hf:full (x.take i)=true) (hy:y<=1) (hne:y≠x.getD i 0):okS (x.set i y)=false:=by
 cases hq:okS (x.set i y) with
 | false=>rfl
 | true =>
   have h1:=okS_take hq (i+1)
   have h2:=okS_take ho (i+1)
   have e0:(x.set i y).take i=x.take i:=List.take_set_of_le (Nat.le_refl _)
   have e1:(x.set i y).take (i+1)=x.take i++[y]:=by
    rw[take_snoc' (x:=y) (by simp[hi]),e0]
   have e2:x.take (i+1)=x.take i++[x.getD i 0]:=take_snoc' (by simp[List.getD,List.getElem?_eq_getElem hi])
   rw[e1,okS_snoc,hf] at h1
   rw[e2,okS_snoc,hf] at h2
   have h3:=lastB_le (l:=x.take i) (fun z hz=>hx z (List.mem_of_mem_take hz))
   have h4:x.getD i 0<=1:=hx _ (List.mem_of_getElem? (i:=i) (by simp[List.getD,List.getElem?_eq_getElem hi]))
   rw[Bool.true_and,Bool.and_eq_true,Bool.not_eq_true',beq_eq_false_iff_ne] at h1 h2
   omega
def spE (l:List Nat):Nat:=if chk l then (if (putL l).length<=65536 then 0 else 2) else 2
def spL (l:List Nat):List Nat:=if chk l then (if (putL l).length<=65536 then putL l else []) else []
def sgE (l:List Nat):Nat:=if chk l then (if okS l then (if lastS l then 7 else 0) else 4) else 2
def sgL (l:List Nat):List Nat:=if chk l then (if okS l then (if lastS l then [] else tell l) else []) else []
def scE (l:List Nat):Nat:=if chk l then (if okS l then 0 else 4) else 2
def scN (l:List Nat):Nat:=if chk l then (if okS l then l.length - (tell l).length else 0) else 0
end Go.Proofs.YtkofdbccdfpllaaDoor
namespace Go.Proofs.YtkofdbccdfpllaaDoor
set_option linter.unusedVariables false
set_option linter.unusedSimpArgs false
open Go.RowKit
def upd (cs:Array Value) (r:Nat × Nat):Array Value:=(cs.setIfInBounds 0 (.int .u8 r.1)).setIfInBounds 1 (.int .i64 r.2)
end Go.Proofs.YtkofdbccdfpllaaDoor
namespace Go.Proofs.YtkofdbccdfpllaaDoor
set_option linter.unusedVariables false
set_option linter.unusedSimpArgs false
open Go.RowKit
def rdV (pre:List Nat) (n:Nat) (v:Value) (st:Bool):Value := .agg #[.int .u8 (runS pre).1,.int .i64 (runS pre).2,.int .i64 n,v,.bool st,.bool false]
def rdZ:Value := .agg #[.int .u8 0,.int .i64 0,.int .i64 0,.slice none 0 0,.bool false,.bool false]
def put6 (w:World) (b:Nat) (v0 v1 v2 v3 v4 v5:Value):World:=(((((w.setCell ⟨b,0,none⟩ v0).setCell ⟨b,1,none⟩ v1).setCell ⟨b,2,none⟩ v2).setCell ⟨b,3,none⟩ v3).setCell ⟨b,4,none⟩ v4).setCell ⟨b,5,none⟩ v5
theorem put6_blk {w:World} {b:Nat} {u0 u1 u2 u3 u4 u5 v0 v1 v2 v3 v4 v5:Value} {t:TypeId} (h:Blk w b #[u0,u1,u2,u3,u4,u5] t):Blk (put6 w b v0 v1 v2 v3 v4 v5) b #[v0,v1,v2,v3,v4,v5] t:=by
 have:=(((((h.set 0 v0).set 1 v1).set 2 v2).set 3 v3).set 4 v4).set 5 v5
 simpa [put6] using this
theorem put6_kp (w:World) (b:Nat) (v0 v1 v2 v3 v4 v5:Value):Kp (fun x=>x=b) w (put6 w b v0 v1 v2 v3 v4 v5):=by
 unfold put6
 iterate 6 refine Kp.tr (F':=fun x=>x=b) ?_ (Kp.set rfl) (fun k h => .inl h)
 exact Kp.rfl
theorem put6_nb {w0 w:World} {b:Nat} (h:Nb w0 w) (hb:w0.heap.size<=b) (v0 v1 v2 v3 v4 v5:Value):Nb w0 (put6 w b v0 v1 v2 v3 v4 v5) :=
 h.trans ((put6_kp w b v0 v1 v2 v3 v4 v5).toBelow h.size (fun k hk=>by omega))
end Go.Proofs.YtkofdbccdfpllaaDoor
namespace Go.Proofs.YtkofdbccdfpllaaDoor
set_option linter.unusedVariables false
set_option linter.unusedSimpArgs false
open Go.RowKit
def ErrOf (l:List Nat) (er:Nat):Prop:=(chk l=false/\er=2)\/(chk l=true/\okS l=false/\er=4)
theorem Blk.six {w:World} {b:Nat} {u0 u1 u2 u3 u4 u5:Value} {t:TypeId} (h:Blk w b #[u0,u1,u2,u3,u4,u5] t) :
    w.cell? ⟨b,0,none⟩=some u0/\w.cell? ⟨b,1,none⟩=some u1/\w.cell? ⟨b,2,none⟩=some u2/\w.cell? ⟨b,3,none⟩=some u3/\w.cell? ⟨b,4,none⟩=some u4/\w.cell? ⟨b,5,none⟩=some u5 /\
    w.frozen? ⟨b,0,none⟩=false/\w.frozen? ⟨b,1,none⟩=false/\w.frozen? ⟨b,2,none⟩=false/\w.frozen? ⟨b,3,none⟩=false/\w.frozen? ⟨b,4,none⟩=false/\w.frozen? ⟨b,5,none⟩=false :=
 ⟨h.cell 0,h.cell 1,h.cell 2,h.cell 3,h.cell 4,h.cell 5,h.frozen 0,h.frozen 1,h.frozen 2,h.frozen 3,h.frozen 4,h.frozen 5⟩
end Go.Proofs.YtkofdbccdfpllaaDoor
namespace Go.Proofs.YtkofdbccdfpllaaDoor
set_option linter.unusedVariables false
set_option linter.unusedSimpArgs false
open Go.RowKit
def stB (l:List Nat) (n:Int):Prop:=n < 0\/65536 < n\/chk l=false
open Classical in
noncomputable def stE (l:List Nat) (n:Int):Nat:=if stB l n then 2 else if (readG n.toNat [] l).2 then 4 else if (tell (readG n.toNat [] l).1).length < n.toNat then 3 else 0
open Classical in
noncomputable def stL (l:List Nat) (n:Int):List Nat:=if stE l n=0 then tell (readG n.toNat [] l).1 else []
open Classical in
noncomputable def stK (l:List Nat) (n:Int):Nat:=if stE l n=0 then (readG n.toNat [] l).1.length else 0
def AnsF3 (w:World) (l:List Nat) (k er:Nat) (e:Ending) (w':World):Prop:=∃ a c,e = .returned (.tuple #[.slice a l.length c,.int .i64 k,.int .i64 er])/\Fresh w w' (.slice a l.length c) l
end Go.Proofs.YtkofdbccdfpllaaDoor
namespace Go.Proofs.YtkofdbccdfpllaaDoor
set_option linter.unusedVariables false
set_option linter.unusedSimpArgs false
open Go.RowKit
theorem chk_of {l:List Nat} (h:∀ x∈l,x<=1) (hl:l.length<=65536):chk l=true:=by
 simp only[chk,Bool.and_eq_true,decide_eq_true_eq,List.all_eq_true]
 exact⟨hl,h⟩
theorem sp_ok {l:List Nat} (h:chk l=true) (hl:l.length<=30000):spE l=0/\spL l=putL l/\chk (putL l)=true:=by
 have h2:=(putL_len2 l).1
 have h3:(putL l).length<=65536:=by omega
 simp only[spE,spL,h,if_true,if_pos h3,true_and]
 exact chk_of (putL_bit (chk_bit h)) h3
theorem sg_put {l:List Nat} (h:chk l=true) (hl:l.length<=30000):sgL (putL l)=l/\sgE (putL l)=0/\scN (putL l)=(putL l).length - l.length/\scE (putL l)=0:=by
 obtain⟨_,_,h3⟩:=sp_ok h hl
 have ho:=okS_putL (chk_bit h)
 obtain⟨ht,hs⟩:=tell_putL (chk_bit h)
 simp[sgL,sgE,scN,scE,h3,ho,ht,hs]
theorem sg_err {l:List Nat} (h:sgE l≠0):sgL l=[]:=by
 unfold sgE at h
 unfold sgL
 by_cases h1:chk l=true
 ·by_cases h2:okS l=true
  ·by_cases h3:lastS l=true
   ·rw[if_pos h1,if_pos h2,if_pos h3]
   ·rw[if_pos h1,if_pos h2,if_neg h3] at h;exact absurd rfl h
  ·rw[if_pos h1,if_neg h2]
 ·rw[if_neg h1]
theorem sg_back {l:List Nat} (h:sgE l=0):spL (sgL l)=l/\spE (sgL l)=0:=by
 unfold sgE at h
 by_cases h1:chk l=true
 ·by_cases h2:okS l=true
  ·by_cases h3:lastS l=true
   ·rw[if_pos h1,if_pos h2,if_pos h3] at h;cases h
   ·have hb:=chk_bit h1
    have hlen:=chk_len h1
    have hp:=(putL_tell hb h2).1 (by simpa using h3)
    have ht:=tell_len l
    have hc:chk (tell l)=true:=chk_of (tell_bit hb) (by omega)
    have e:sgL l=tell l:=by unfold sgL;rw[if_pos h1,if_pos h2,if_neg h3]
    rw[e]
    simp[spL,spE,hc,hp,hlen]
  ·rw[if_pos h1,if_neg h2] at h;cases h
 ·rw[if_neg h1] at h;cases h
theorem take_parts {l more:List Nat} (hl:chk l=true) (hm:chk more=true) (h1:l.length<=2000) (h2:more.length<=2000) {k:Nat} (hk:k<=l.length) :
    stE (putL l++more) (k:Int)=0/\stL (putL l++more) (k:Int)=l.take k/\stK (putL l++more) (k:Int)=(putL (l.take k)).length:=by
 have hb:=chk_bit hl
 have hG:=readG_parts hb more hk
 have hlen:=(putL_len2 l).1
 have hc:chk (putL l++more)=true:=chk_of (fun x hx=>by
  rcases List.mem_append.1 hx with h | h
  ·exact putL_bit hb x h
  ·exact chk_bit hm x h) (by rw[List.length_append];omega)
 have ht:=(tell_putL (l:=l.take k) (fun x hx=>hb x (List.mem_of_mem_take hx))).1
 have hn:¬stB (putL l++more) (k:Int):=by
  rintro (h | h | h)
  ·omega
  ·omega
  ·rw[hc] at h;cases h
 have hlt:(l.take k).length=k:=by rw[List.length_take];omega
 have e0:stE (putL l++more) (k:Int)=0:=by simp[stE,hn,hG,ht,hlt]
 exact⟨e0,by simp[stL,e0,hG,ht],by simp[stK,e0,hG]⟩
theorem run_is {l:List Nat} {k:Nat} (h:IsRun l k):k=(runS l).2:=h.uniq (isRun_runS l)
theorem six_err {l:List Nat} (hc:chk l=true) {i:Nat} (h:(runS (l.take i)).2=6):sgE l=4:=by
 have ho:okS l=false:=by
  cases ho:okS l with
  | false=>rfl
  | true =>
    have:=okS_run (okS_take ho i)
    omega
 simp[sgE,hc,ho]
theorem turned_err {x:List Nat} {i:Nat} (hc:chk x=true) (ho:okS x=true) (hi:i < x.length) (hf:full (x.take i)=true) :
    sgE (x.set i (x.getD i 0 ^^^ 1))=4/\sgL (x.set i (x.getD i 0 ^^^ 1))=[]/\scE (x.set i (x.getD i 0 ^^^ 1))=4:=by
 have hb:=chk_bit hc
 have h1:x.getD i 0<=1:=hb _ (List.mem_of_getElem? (i:=i) (by simp[List.getD,List.getElem?_eq_getElem hi]))
 have hk:=okS_turned hb ho hi hf (xor1_le _ h1) (xor1_ne _ h1)
 have hc2:chk (x.set i (x.getD i 0 ^^^ 1))=true:=chk_of (set_bits hb _ _ (xor1_le _ h1)) (by rw[List.length_set];exact chk_len hc)
 simp only[sgE,sgL,scE,hc2,hk,if_true,Bool.false_eq_true,if_false,and_self]
theorem full_five {x:List Nat} (ho:okS x=true) (i:Nat):(runS (x.take i)).2=5↔full (x.take i)=true:=by
 have:=okS_run (okS_take ho i)
 simp[full]
 omega
theorem put_beg (l:List Nat) (k:Nat):(putL (l.take k)).length<=(putL l).length/\putL (l.take k)=(putL l).take (putL (l.take k)).length:=by
 obtain⟨Y,hY⟩:=putL_append (l.take k) (l.drop k)
 rw[List.take_append_drop] at hY
 rw[hY]
 simp
theorem Bs.nil_of {w:World} {c:Nat} {l:List Nat} (h:Bs w none c l):l=[]:=h.none_len
end Go.Proofs.YtkofdbccdfpllaaDoor
