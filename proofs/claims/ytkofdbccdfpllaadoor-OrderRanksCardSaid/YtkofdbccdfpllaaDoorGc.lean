/- What a check sum is, as a number: a kind's rule, a step, a run; and what follows from that. No program here. No conditions. Contracts of the check sums' functions: find, Size, take, each, More, Sum. Condition: the package's table of kinds holds what the program's text lays there. Contracts of More and Sum, the program's and the document's. Condition: the package's table of kinds holds what the program's text lays there. Contracts of the document's run, More and Sum. No conditions. Contracts of slices.Grow and slices.Concat at two rows of bytes that are not both empty. Condition: sizes below 2 to the 46. Contracts of Add and Fits. Condition: the package's table of kinds holds what the program's text lays there. Of rows and their check sums as numbers: a row fits just if its whole run ends at nothing; runs belong together bit by bit; what differs within a burst doesn't fit. No program here. No conditions. -/
import Derived.Test.YtkofdbccdfpllaaDoorGb
import Derived.RegionTactic
import Derived.StillTailTactics
import Derived.OwnWalk
import Derived.Test.YtkofdbccdfpllaaDoorGa
import Derived.Lib.AppendZeros
namespace Go.Proofs.YtkofdbccdfpllaaDoor
set_option linter.unusedVariables false
set_option linter.unusedSimpArgs false
open Go.RowKit
def ruleK (k:Int):Nat × Nat × Nat :=
 if k=1 then (15,17817,0) else if k=2 then (17,92251,65536) else if k=3 then (21,1058969,1048576) else if k=4 then (13,6631,1) else if k=5 then (32,4104977171,1) else (0,0,0)
def szK (k:Int):Nat:=(ruleK k).1
def polyK (k:Int):Nat:=(ruleK k).2.1
def startK (k:Int):Nat:=(ruleK k).2.2
theorem ruleK_cases (k:Int):(k=1\/k=2\/k=3\/k=4\/k=5)\/(ruleK k=(0,0,0)/\k≠1/\k≠2/\k≠3/\k≠4/\k≠5):=by
 unfold ruleK
 by_cases h1:k=1;· exact .inl (.inl h1)
 by_cases h2:k=2;· exact .inl (.inr (.inl h2))
 by_cases h3:k=3;· exact .inl (.inr (.inr (.inl h3)))
 by_cases h4:k=4;· exact .inl (.inr (.inr (.inr (.inl h4))))
 by_cases h5:k=5;· exact .inl (.inr (.inr (.inr (.inr h5))))
 exact .inr ⟨by simp[h1,h2,h3,h4,h5],h1,h2,h3,h4,h5⟩
structure KindOk (n p s:Nat):Prop where
 pos:13<=n
 le:n<=32
 poly:p < 2^n
 odd:p%2=1
 start:s < 2^n
theorem kindOk (k:Int) (h:szK k≠0):KindOk (szK k) (polyK k) (startK k):=by
 rcases ruleK_cases k with (rfl | rfl | rfl | rfl | rfl) | ⟨h1,_⟩
 ·exact⟨by decide,by decide,by decide,by decide,by decide⟩
 ·exact⟨by decide,by decide,by decide,by decide,by decide⟩
 ·exact⟨by decide,by decide,by decide,by decide,by decide⟩
 ·exact⟨by decide,by decide,by decide,by decide,by decide⟩
 ·exact⟨by decide,by decide,by decide,by decide,by decide⟩
 ·simp[szK,h1] at h
def stepC (n p s b:Nat):Nat:=if s / 2^(n - 1)=b then s*2%2^n else (s*2%2^n) ^^^ p
def runC (n p s:Nat) (l:List Nat):Nat:=l.foldl (stepC n p) s
theorem runC_nil (n p s:Nat):runC n p s []=s:=rfl
theorem runC_append (n p s:Nat) (l m:List Nat):runC n p s (l++m)=runC n p (runC n p s l) m:=by simp[runC]
theorem runC_snoc (n p s:Nat) (l:List Nat) (b:Nat):runC n p s (l++[b])=stepC n p (runC n p s l) b:=by simp[runC]
theorem runC_cons (n p s:Nat) (l:List Nat) (b:Nat):runC n p s (b::l)=runC n p (stepC n p s b) l:=by simp[runC]
theorem stepC_lt {n p s b:Nat} (hp:p < 2^n):stepC n p s b < 2^n:=by
 have h:s*2%2^n < 2^n:=Nat.mod_lt _ (Nat.two_pow_pos n)
 unfold stepC
 split
 ·exact h
 ·exact Nat.xor_lt_two_pow h hp
theorem runC_lt {n p:Nat} (hp:p < 2^n):∀ (l:List Nat) (s:Nat),s < 2^n->runC n p s l < 2^n:=by
 intro l
 induction l with
 | nil=>intro s h;exact h
 | cons b l ih=>intro s _;rw[runC_cons];exact ih _ (stepC_lt hp)
theorem top_le {n s:Nat} (hn:1<=n) (hs:s < 2^n):s / 2^(n - 1)<=1:=by
 have:2^n=2^(n - 1)*2:=by rw[<- Nat.pow_succ];congr 1;omega
 have h2:s / 2^(n - 1) < 2:=Nat.div_lt_of_lt_mul (by omega)
 omega
end Go.Proofs.YtkofdbccdfpllaaDoor
namespace Go.Proofs.YtkofdbccdfpllaaDoor
set_option linter.unusedVariables false
set_option linter.unusedSimpArgs false
open Go.RowKit
def kindsTab:List Value:=[.int .i64 0,.int .u64 0,.int .u64 0,.int .i64 15,.int .u64 17817,.int .u64 0,.int .i64 17,.int .u64 92251,.int .u64 65536,.int .i64 21,.int .u64 1058969,.int .u64 1048576,.int .i64 13,.int .u64 6631,.int .u64 1,.int .i64 32,.int .u64 4104977171,.int .u64 1]
theorem Blk.drewN {w:World} {R:Nat} {cs:Array Value} {t:TypeId} (h:Blk w R cs t) (n:Nat):Blk (w.drewN n) R cs t:=h
theorem take_arith (n s:Nat) (h32:n<=32) (hs:s < 2^n) :
    bits BinOp.and IntKind.u64 ((s:Int)*2) (IntKind.u64.wrap (IntKind.u64.wrap (2^n) - 1))=((s*2%2^n:Nat):Int):=by
 have h1:(2:Nat)^n<=4294967296:=Nat.pow_le_pow_right (by omega) h32
 have h0:0 < (2:Nat)^n:=Nat.two_pow_pos n
 have h2:=bits_and_u64_nat (s*2) (2^n - 1) (by omega) (by omega)
 rw[Nat.and_two_pow_sub_one_eq_mod] at h2
 have h3:(2:Int)^n=((2^n:Nat):Int):=by push_cast;rfl
 have e2:IntKind.u64.wrap (IntKind.u64.wrap (2^n) - 1)=((2^n - 1:Nat):Int):=by
  rw[h3,IntKind.wrap_u64,IntKind.wrap_u64]
  omega
 rw[<- h2,e2]
 congr 1
end Go.Proofs.YtkofdbccdfpllaaDoor
namespace Go.Proofs.YtkofdbccdfpllaaDoor
set_option linter.unusedVariables false
set_option linter.unusedSimpArgs false
open Go.RowKit
def moreOk (k:Int) (s:Nat) (l:List Nat):Bool:=decide (szK k≠0)&&decide (s < 2^szK k)&&chk l
def moreN (k:Int) (s:Nat) (l:List Nat):Nat:=if moreOk k s l then runC (szK k) (polyK k) s l else 0
def moreE (k:Int) (s:Nat) (l:List Nat):Nat:=if moreOk k s l then 0 else 2
theorem startK_lt (k:Int):startK k < 18446744073709551616:=by
 rcases ruleK_cases k with (rfl | rfl | rfl | rfl | rfl) | ⟨h1,_⟩
 iterate 5 decide
 simp[startK,h1]
def sumN (k:Int) (l:List Nat):Nat:=moreN k (startK k) l
def sumE (k:Int) (l:List Nat):Nat:=moreE k (startK k) l
end Go.Proofs.YtkofdbccdfpllaaDoor
namespace Go.Proofs.YtkofdbccdfpllaaDoor
set_option linter.unusedVariables false
set_option linter.unusedSimpArgs false
open Go.RowKit
theorem OwnB.empty {w:World} {g n cap:Nat} {l:List Nat} (h:OwnB w (.slice (some ⟨g,0,none⟩) n cap) l):OwnB w (.slice (some ⟨g,0,none⟩) 0 cap) []:=by
 obtain⟨⟨h1,h2⟩,h3⟩:=h
 refine⟨⟨by simp,?_⟩,by simp⟩
 rcases h2 with ⟨h2,_⟩ | ⟨g',cap',cur,hv,hb,hh,hn,hm,hs,ht⟩
 ·cases h2
 ·cases hv
  exact .inr ⟨g,cap,cur,by simp,hb,hh,Nat.zero_le _,hm,hs,by simp⟩
end Go.Proofs.YtkofdbccdfpllaaDoor
namespace Go.Proofs.YtkofdbccdfpllaaDoor
set_option linter.unusedVariables false
set_option linter.unusedSimpArgs false
open Go.RowKit
def addL (k:Int) (l:List Nat):List Nat:=if moreOk k (startK k) l then l++bitsN (runC (szK k) (polyK k) (startK k) l) (szK k) else []
def fitsB (k:Int) (l:List Nat):Bool :=
 decide (szK k≠0)&&decide (szK k<=l.length)&&chk l&&decide (numN (l.drop (l.length - szK k))=runC (szK k) (polyK k) (startK k) (l.take (l.length - szK k)))
theorem beq_nat (a b:Nat):((a:Int)==(b:Int))=decide (a=b):=by
 by_cases h:a=b
 ·simp[h]
 ·have:¬(a:Int)=(b:Int):=by omega
  simp[h,this]
theorem sumN_ok {k:Int} {l:List Nat} (h:moreOk k (startK k) l=true):sumN k l=runC (szK k) (polyK k) (startK k) l/\sumE k l=0:=by simp[sumN,sumE,moreN,moreE,h]
theorem sumN_bad {k:Int} {l:List Nat} (h:moreOk k (startK k) l=false):sumN k l=0/\sumE k l=2:=by simp[sumN,sumE,moreN,moreE,h]
theorem moreOk_parts {k:Int} {s:Nat} {l:List Nat} (h:moreOk k s l=true):szK k≠0/\s < 2^szK k/\chk l=true:=by
 simp only[moreOk,Bool.and_eq_true,decide_eq_true_eq] at h
 exact⟨h.1.1,h.1.2,h.2⟩
theorem moreOk_start {k:Int} {l:List Nat} (hz:szK k≠0) (hc:chk l=true):moreOk k (startK k) l=true:=by
 simp[moreOk,hz,hc,(kindOk k hz).start]
end Go.Proofs.YtkofdbccdfpllaaDoor
namespace Go.Proofs.YtkofdbccdfpllaaDoor
set_option linter.unusedVariables false
set_option linter.unusedSimpArgs false
open Go.RowKit
theorem half_pow {n:Nat} (hn:1<=n):2^n=2^(n - 1)*2:=by rw[<- Nat.pow_succ];congr 1;omega
theorem twice_mod {n s:Nat} (hn:1<=n):s*2%2^n=(s%2^(n - 1))*2:=by
 rw[half_pow hn,Nat.mul_mod_mul_right]
theorem runC_zero {n p:Nat} (hn:1<=n) (hp:p%2=1) (hpl:p < 2^n):∀ (u:List Nat) (s:Nat),u.length<=n->(∀ x∈u,x<=1)->s < 2^n->(runC n p s u=0↔s=numN u*2^(n - u.length)):=by
 intro u
 induction u with
 | nil =>
   intro s _ _ _
   simp[runC_nil,numN]
 | cons b u ih =>
   intro s hl hb hs
   rw[List.length_cons] at hl
   have hb1:b<=1:=hb b (by simp)
   have hbu:∀ x∈u,x<=1:=fun x hx=>hb x (by simp[hx])
   have hpow:2^(n - u.length)=2^(n - (u.length+1))*2:=by
    rw[<- Nat.pow_succ];congr 1;omega
   have hnum:numN (b::u)=b*2^u.length+numN u:=by
    have key:∀ (u:List Nat) (c:Nat),u.foldl (fun n b=>n*2+b) c=c*2^u.length+u.foldl (fun n b=>n*2+b) 0:=by
     intro u
     induction u with
     | nil=>intro c;simp
     | cons x u ih =>
       intro c
       rw[List.foldl_cons,List.foldl_cons,ih (c*2+x),ih (0*2+x),List.length_cons,Nat.pow_succ]
       rw[Nat.zero_mul,Nat.zero_add,Nat.add_mul,Nat.add_assoc,Nat.mul_assoc,Nat.mul_comm 2]
    have:=key u (0*2+b)
    simpa [numN] using this
   have hup:=numN_lt u hbu
   have hprod:2^u.length*2^(n - (u.length+1))=2^(n - 1):=by rw[<- Nat.pow_add];congr 1;omega
   have hdm:s=s / 2^(n - 1)*2^(n - 1)+s%2^(n - 1):=by rw[Nat.mul_comm];exact (Nat.div_add_mod s _).symm
   rw[runC_cons,List.length_cons]
   have hnumlt:numN u*2^(n - (u.length+1)) < 2^(n - 1):=by
    rw[<- hprod]
    exact Nat.mul_lt_mul_of_pos_right hup (Nat.two_pow_pos _)
   constructor
   ·intro h
    by_cases ht:s / 2^(n - 1)=b
    ·have hst:stepC n p s b=s%2^(n - 1)*2:=by unfold stepC;rw[if_pos ht,twice_mod hn]
     rw[hst] at h
     have hlt:s%2^(n - 1)*2 < 2^n:=by
      rw[half_pow hn]
      exact Nat.mul_lt_mul_of_pos_right (Nat.mod_lt _ (Nat.two_pow_pos _)) (by decide)
     have h1:=(ih _ (by omega) hbu hlt).1 h
     rw[hpow,<- Nat.mul_assoc] at h1
     have h2:s%2^(n - 1)=numN u*2^(n - (u.length+1)):=Nat.eq_of_mul_eq_mul_right (by decide) h1
     rw[hdm,ht,h2,hnum,Nat.add_mul,Nat.mul_assoc,hprod]
    ·exfalso
     have hst:stepC n p s b=(s%2^(n - 1)*2) ^^^ p:=by unfold stepC;rw[if_neg ht,twice_mod hn]
     have h1:=(ih _ (by omega) hbu (stepC_lt hpl)).1 h
     rw[hst,hpow,<- Nat.mul_assoc] at h1
     have e:=Nat.xor_mod_two_pow (a:=s%2^(n - 1)*2) (b:=p) (n:=1)
     rw[Nat.pow_one,h1,Nat.mul_mod_left,Nat.mul_mod_left,hp] at e
     revert e
     decide
   ·intro h
    have hdiv:s / 2^(n - 1)=b:=by
     rw[h,hnum,Nat.add_mul,Nat.mul_assoc,hprod,Nat.mul_comm b,Nat.mul_add_div (Nat.two_pow_pos _),Nat.div_eq_of_lt hnumlt,Nat.add_zero]
    have hmod:s%2^(n - 1)=numN u*2^(n - (u.length+1)):=by
     rw[h,hnum,Nat.add_mul,Nat.mul_assoc,hprod,Nat.mul_comm b,Nat.mul_add_mod,Nat.mod_eq_of_lt hnumlt]
    have hst:stepC n p s b=s%2^(n - 1)*2:=by unfold stepC;rw[if_pos hdiv,twice_mod hn]
    rw[hst,hmod]
    have hlt:numN u*2^(n - (u.length+1))*2 < 2^n:=by
     rw[half_pow hn]
     exact Nat.mul_lt_mul_of_pos_right hnumlt (by decide)
    rw[ih _ (by omega) hbu hlt,hpow,Nat.mul_assoc]
theorem stepC_zero (n p:Nat):stepC n p 0 0=0:=by simp[stepC]
theorem runC_zeros (n p:Nat) (k:Nat):runC n p 0 (List.replicate k 0)=0:=by
 induction k with
 | zero=>rfl
 | succ k ih=>rw[List.replicate_succ,runC_cons,stepC_zero];exact ih
theorem runC_back {n p:Nat} (hn:1<=n) (hp:p%2=1) (hpl:p < 2^n):∀ (k s:Nat),s < 2^n->runC n p s (List.replicate k 0)=0->s=0:=by
 intro k
 induction k with
 | zero=>intro s _ h;exact h
 | succ k ih =>
   intro s hs h
   rw[List.replicate_succ,runC_cons] at h
   have h1:=ih _ (stepC_lt hpl) h
   have h2:=(runC_zero hn hp hpl [0] s (by simpa using hn) (by simp) hs).1 (by rw[runC_cons,h1,runC_nil])
   simpa [numN] using h2
theorem top_xor {n s t:Nat}:(s ^^^ t) / 2^(n - 1)=s / 2^(n - 1) ^^^ t / 2^(n - 1):=by
 rw[<- Nat.shiftRight_eq_div_pow,<- Nat.shiftRight_eq_div_pow,<- Nat.shiftRight_eq_div_pow,Nat.shiftRight_xor_distrib]
theorem twice_xor {n s t:Nat}:(s ^^^ t)*2%2^n=s*2%2^n ^^^ t*2%2^n:=by
 rw[<- Nat.xor_mod_two_pow]
 congr 1
 have:∀ x:Nat,x*2=x <<< 1:=fun x=>by rw[Nat.shiftLeft_eq]
 rw[this,this,this,Nat.shiftLeft_xor_distrib]
theorem stepC_xor {n p s t b c:Nat} (hn:1<=n) (hs:s < 2^n) (ht:t < 2^n) (hb:b<=1) (hc:c<=1):stepC n p (s ^^^ t) (b ^^^ c)=stepC n p s b ^^^ stepC n p t c:=by
 have h1:=top_le hn hs
 have h2:=top_le hn ht
 unfold stepC
 rw[top_xor,twice_xor]
 generalize s / 2^(n - 1)=x at *
 generalize t / 2^(n - 1)=y at *
 generalize s*2%2^n=u
 generalize t*2%2^n=v
 have cx:∀ a b c:Nat,a ^^^ b ^^^ c=a ^^^ c ^^^ b:=fun a b c=>by rw[Nat.xor_assoc,Nat.xor_comm b,Nat.xor_assoc]
 have cy:∀ a b c:Nat,a ^^^ b ^^^ (c ^^^ b)=a ^^^ c:=fun a b c=>by rw[Nat.xor_assoc,Nat.xor_comm c,<- Nat.xor_assoc b,Nat.xor_self,Nat.zero_xor]
 rcases (by omega:x=0\/x=1) with rfl | rfl<;>rcases (by omega:y=0\/y=1) with rfl | rfl<;>rcases (by omega:b=0\/b=1) with rfl | rfl<;>rcases (by omega:c=0\/c=1) with rfl | rfl<;>simp[Nat.xor_assoc,cx,cy]<;>rw[Nat.xor_comm p v]
def xorL (x y:List Nat):List Nat:=List.zipWith (· ^^^ ·) x y
theorem xorL_length {x y:List Nat} (h:x.length=y.length):(xorL x y).length=x.length:=by simp[xorL,h]
theorem runC_xor {n p:Nat} (hn:1<=n) (hpl:p < 2^n):∀ (x y:List Nat) (s t:Nat),x.length=y.length->(∀ b∈x,b<=1)->(∀ b∈y,b<=1)->s < 2^n->t < 2^n ->
    runC n p (s ^^^ t) (xorL x y)=runC n p s x ^^^ runC n p t y:=by
 intro x
 induction x with
 | nil =>
   intro y s t hl _ _ _ _
   cases y with
   | nil=>rfl
   | cons c y=>simp at hl
 | cons b x ih =>
   intro y s t hl hx hy hs ht
   cases y with
   | nil=>simp at hl
   | cons c y =>
     have e:xorL (b::x) (c::y)=(b ^^^ c)::xorL x y:=rfl
     rw[e,runC_cons,runC_cons,runC_cons,stepC_xor hn hs ht (hx b (by simp)) (hy c (by simp))]
     exact ih y _ _ (by simpa using hl) (fun z hz=>hx z (by simp[hz])) (fun z hz=>hy z (by simp[hz])) (stepC_lt hpl) (stepC_lt hpl)
theorem xorL_getD (x y:List Nat) (h:x.length=y.length) (i:Nat):(xorL x y).getD i 0=x.getD i 0 ^^^ y.getD i 0:=by
 unfold xorL
 simp only[List.getD,List.getElem?_zipWith]
 by_cases hi:i < x.length
 ·have:i < y.length:=by omega
  simp[hi,this]
 ·simp[List.getElem?_eq_none (by omega:x.length<=i),List.getElem?_eq_none (by omega:y.length<=i)]
theorem getD_ext {x y:List Nat} (h:x.length=y.length) (hi:∀ i,x.getD i 0=y.getD i 0):x=y:=by
 apply List.ext_getElem?
 intro i
 by_cases hl:i < x.length
 ·have:=hi i
  simp only[List.getD,List.getElem?_eq_getElem hl,List.getElem?_eq_getElem (h ▸ hl:i < y.length),Option.getD_some] at this
  rw[List.getElem?_eq_getElem hl,List.getElem?_eq_getElem (h ▸ hl:i < y.length),this]
 ·rw[List.getElem?_eq_none (by omega),List.getElem?_eq_none (by omega)]
theorem burst_zero {n p:Nat} (hn:1<=n) (hp:p%2=1) (hpl:p < 2^n) (z:List Nat) (hz:∀ x∈z,x<=1) (k:Nat) (hout:∀ i,i < k\/k+n<=i->z.getD i 0=0) (h:runC n p 0 z=0):∀ i,z.getD i 0=0:=by
 have hrep:∀ l:List Nat,(∀ i,l.getD i 0=0)->l=List.replicate l.length 0:=fun l hl =>
  getD_ext (by simp) (fun i=>by rw[hl i];simp[List.getD,List.getElem?_replicate];split<;>rfl)
 have h1:z.take k=List.replicate (z.take k).length 0:=hrep _ fun i=>by
  by_cases hi:i < k
  ·have:=hout i (.inl hi)
   simpa [List.getD,List.getElem?_take,hi] using this
  ·simp[List.getD,List.getElem?_take,hi]
 have h3:z.drop (k+n)=List.replicate (z.drop (k+n)).length 0:=hrep _ fun i=>by
  have:=hout (k+n+i) (.inr (by omega))
  simpa [List.getD,List.getElem?_drop] using this
 have hsplit:z=z.take k++((z.drop k).take n++z.drop (k+n)):=by
  rw[<- List.drop_drop,List.take_append_drop,List.take_append_drop]
 rw[hsplit,runC_append,runC_append,h1,runC_zeros,h3] at h
 have hu:∀ x∈(z.drop k).take n,x<=1:=fun x hx=>hz x (List.mem_of_mem_drop (List.mem_of_mem_take hx))
 have h4:=runC_back hn hp hpl _ _ (runC_lt hpl _ _ (Nat.two_pow_pos n)) h
 have hlen:((z.drop k).take n).length<=n:=by rw[List.length_take];omega
 have h5:=(runC_zero hn hp hpl _ 0 hlen hu (Nat.two_pow_pos n)).1 h4
 have h6:numN ((z.drop k).take n)=0:=by
  rcases Nat.mul_eq_zero.1 h5.symm with h | h
  ·exact h
  ·have:=Nat.two_pow_pos (n - ((z.drop k).take n).length);omega
 have h7:=bitsN_numN _ hu
 intro i
 by_cases hi:i < k\/k+n<=i
 ·exact hout i hi
 ·have e:z.getD i 0=((z.drop k).take n).getD (i - k) 0:=by
   simp only[List.getD,List.getElem?_take,List.getElem?_drop,if_pos (by omega:i - k < n)]
   rw[show k+(i - k)=i by omega]
  rw[e,<- h7,h6]
  simp only[bitsN,List.getD,List.getElem?_map,Nat.zero_div,Nat.zero_mod]
  cases (List.range ((z.drop k).take n).length)[i - k]? <;> rfl
theorem fitsB_iff (k:Int) (l:List Nat):fitsB k l=true↔szK k≠0/\szK k<=l.length/\chk l=true/\runC (szK k) (polyK k) (startK k) l=0:=by
 simp only[fitsB,Bool.and_eq_true,decide_eq_true_eq]
 constructor
 ·rintro⟨⟨⟨hz,hl⟩,hc⟩,h⟩
  obtain⟨n1,n2,n3,n4,n5⟩:=kindOk k hz
  refine⟨hz,hl,hc,?_⟩
  have hb:∀ x∈l.drop (l.length - szK k),x<=1:=fun x hx=>chk_bit hc x (List.mem_of_mem_drop hx)
  have hlen:(l.drop (l.length - szK k)).length=szK k:=by rw[List.length_drop];omega
  rw[<- List.take_append_drop (l.length - szK k) l,runC_append,<- h]
  refine (runC_zero (by omega) n4 n3 _ _ (by omega) hb ?_).2 (by rw[hlen];simp)
  have:=numN_lt _ hb
  rwa[hlen] at this
 ·rintro⟨hz,hl,hc,h⟩
  obtain⟨n1,n2,n3,n4,n5⟩:=kindOk k hz
  refine⟨⟨⟨hz,hl⟩,hc⟩,?_⟩
  have hb:∀ x∈l.drop (l.length - szK k),x<=1:=fun x hx=>chk_bit hc x (List.mem_of_mem_drop hx)
  have hlen:(l.drop (l.length - szK k)).length=szK k:=by rw[List.length_drop];omega
  rw[<- List.take_append_drop (l.length - szK k) l,runC_append] at h
  have:=(runC_zero (by omega) n4 n3 _ _ (by omega) hb (runC_lt n3 _ _ n5)).1 h
  rw[hlen] at this
  simpa using this.symm
theorem fits_burst (k:Int) (x y:List Nat) (hx:fitsB k x=true) (hl:y.length=x.length) (hb:∀ b∈y,b<=1) (j:Nat) (hout:∀ i,i < j\/j+szK k<=i->y.getD i 0=x.getD i 0):fitsB k y=decide (y=x):=by
 by_cases hyx:y=x
 ·rw[hyx,hx];simp
 ·rw[decide_eq_false hyx]
  cases hf:fitsB k y with
  | false=>rfl
  | true =>
    exfalso
    obtain⟨hz,_,hc,h0⟩:=(fitsB_iff k x).1 hx
    obtain⟨_,_,_,h1⟩:=(fitsB_iff k y).1 hf
    obtain⟨n1,n2,n3,n4,n5⟩:=kindOk k hz
    have hlin:=runC_xor (p:=polyK k) (by omega:1<=szK k) n3 y x (startK k) (startK k) hl hb (chk_bit hc) n5 n5
    rw[Nat.xor_self,h0,h1,Nat.xor_self] at hlin
    have hz2:∀ b∈xorL y x,b<=1:=by
     intro b hbm
     obtain⟨i,hi,rfl⟩:=List.getElem_of_mem hbm
     rw[xorL_length hl] at hi
     have e1:y[i]<=1:=hb _ (List.getElem_mem _)
     have e2:x[i]'(by omega)<=1:=chk_bit hc _ (List.getElem_mem _)
     simp only[xorL,List.getElem_zipWith]
     have:y[i] ^^^ x[i]'(by omega) < 2^1:=Nat.xor_lt_two_pow (by omega) (by omega)
     omega
    have hall:=burst_zero (by omega) n4 n3 (xorL y x) hz2 j (fun i hi=>by rw[xorL_getD _ _ hl,hout i hi,Nat.xor_self]) hlin
    refine hyx (getD_ext hl fun i => ?_)
    have:=hall i
    rw[xorL_getD _ _ hl] at this
    have h2:=congrArg (· ^^^ x.getD i 0) this
    simpa [Nat.xor_assoc] using h2
theorem fits_add (k:Int) (l:List Nat) (hm:moreOk k (startK k) l=true) (hl:l.length<=60000):fitsB k (addL k l)=true/\(addL k l).take l.length=l/\(addL k l).length=l.length+szK k/\∀ b∈addL k l,b<=1:=by
 obtain⟨hz,_,hc⟩:=moreOk_parts hm
 obtain⟨n1,n2,n3,n4,n5⟩:=kindOk k hz
 have ha:addL k l=l++bitsN (runC (szK k) (polyK k) (startK k) l) (szK k):=by simp[addL,hm]
 have hS:=runC_lt n3 l _ n5
 have hlen:(addL k l).length=l.length+szK k:=by rw[ha,List.length_append,bitsN_length]
 have hbits:∀ b∈addL k l,b<=1:=by
  intro b hb
  rw[ha] at hb
  rcases List.mem_append.1 hb with h | h
  ·exact chk_bit hc b h
  ·have:=bitsN_lt _ _ b h;omega
 refine⟨?_,by rw[ha];simp,hlen,hbits⟩
 have hc2:chk (addL k l)=true:=by
  simp only[chk,Bool.and_eq_true,decide_eq_true_eq,List.all_eq_true]
  exact⟨by omega,hbits⟩
 have e:(addL k l).length - szK k=l.length:=by omega
 simp only[fitsB,hc2,e,Bool.and_eq_true,decide_eq_true_eq]
 refine⟨⟨⟨hz,by omega⟩,trivial⟩,?_⟩
 rw[ha]
 simp[numN_bitsN _ _ hS]
structure Turned (X Y:List Nat) (B k j:Nat):Prop where
 len:Y.length=X.length
 bit:∀ b∈Y,b<=1
 at_:∀ i,Y.getD i 0=if k<=i/\i < k+j then X.getD i 0 ^^^ (B / 2^(i - k)%2) else X.getD i 0
theorem xor_le {a b:Nat} (h:a<=1) (k:b<=1):a ^^^ b<=1:=by
 have:a ^^^ b < 2^1:=Nat.xor_lt_two_pow (by omega) (by omega)
 omega
theorem getD_le {Y:List Nat} (h:∀ b∈Y,b<=1) (i:Nat):Y.getD i 0<=1:=by
 by_cases hi:i < Y.length
 ·have:Y.getD i 0∈Y:=by simp[List.getD,hi]
  exact h _ this
 ·simp[List.getD,List.getElem?_eq_none (by omega:Y.length<=i)]
theorem Turned.zero {X:List Nat} (h:∀ b∈X,b<=1) (B k:Nat):Turned X X B k 0:=⟨rfl,h,fun i=>by rw[if_neg (by omega)]⟩
theorem Turned.step {X Y:List Nat} {B k j:Nat} (h:Turned X Y B k j) (hk:k+j < X.length):Turned X (Y.set (k+j) (Y.getD (k+j) 0 ^^^ (B / 2^j%2))) B k (j+1):=by
 have hle:Y.getD (k+j) 0 ^^^ (B / 2^j%2)<=1:=xor_le (getD_le h.bit _) (by omega)
 refine⟨by rw[List.length_set];exact h.len,set_bits h.bit _ _ hle,fun i => ?_⟩
 rw[set_getD _ _ _ _ (by rw[h.len];exact hk)]
 by_cases hi:i=k+j
 ·subst hi
  rw[if_pos rfl,if_pos (by omega),h.at_,if_neg (by omega),Nat.add_sub_cancel_left]
 ·rw[if_neg hi,h.at_]
  by_cases hc:k<=i/\i < k+j
  ·rw[if_pos hc,if_pos (by omega)]
  ·rw[if_neg hc,if_neg (by omega)]
theorem bits_none {B n:Nat} (hB:B < 2^n) (h:∀ i,i < n->B / 2^i%2=0):B=0:=by
 apply Nat.eq_of_testBit_eq
 intro i
 rw[Nat.zero_testBit]
 by_cases hi:i < n
 ·rw[Nat.testBit_eq_decide_div_mod_eq,h i hi];rfl
 ·exact Nat.testBit_lt_two_pow (Nat.lt_of_lt_of_le hB (Nat.pow_le_pow_right (by omega) (by omega)))
theorem Turned.fits {K:Int} {X Y:List Nat} {B k:Nat} (h:Turned X Y B k (szK K)) (hx:fitsB K X=true) (hB:B < 2^szK K):fitsB K Y=decide (B=0):=by
 rw[fits_burst K X Y hx h.len h.bit k (fun i hi=>by rw[h.at_,if_neg (by omega)])]
 have:Y=X↔B=0:=by
  constructor
  ·intro he
   refine bits_none hB fun i hi => ?_
   have h1:=h.at_ (k+i)
   rw[if_pos (by omega),Nat.add_sub_cancel_left,he] at h1
   have h2:=congrArg (X.getD (k+i) 0 ^^^ ·) h1
   simp only[Nat.xor_self,<- Nat.xor_assoc,Nat.zero_xor] at h2
   exact h2.symm
  ·rintro rfl
   refine getD_ext h.len fun i => ?_
   rw[h.at_]
   split<;>simp
 by_cases hz:B=0
 ·simp[this.2 hz,hz]
 ·have:¬Y=X:=fun e=>hz (this.1 e)
  simp[this,hz]
theorem xor_u8 (a b:Nat) (h:a<=1) (k:b<=1):bits BinOp.xor IntKind.u8 (a:Int) (b:Int)=((a ^^^ b:Nat):Int):=by
 rcases (by omega:a=0\/a=1) with rfl | rfl<;>rcases (by omega:b=0\/b=1) with rfl | rfl<;>decide +kernel
structure Differ (A B Y:List Nat) (N j:Nat):Prop where
 len:Y.length=N
 at_:∀ i,Y.getD i 0=if i < j then A.getD i 0 ^^^ B.getD i 0 else 0
theorem Differ.zero (A B:List Nat) (N:Nat):Differ A B (List.replicate N 0) N 0:=⟨by simp,fun i=>by
 simp only[Nat.not_lt_zero,if_false,List.getD,List.getElem?_replicate]
 split<;>rfl⟩
theorem Differ.step {A B Y:List Nat} {N j:Nat} (h:Differ A B Y N j) (hj:j < N):Differ A B (Y.set j (A.getD j 0 ^^^ B.getD j 0)) N (j+1):=by
 refine⟨by rw[List.length_set];exact h.len,fun i => ?_⟩
 rw[set_getD _ _ _ _ (by rw[h.len];exact hj),h.at_]
 by_cases hi:i=j
 ·subst hi;simp
 ·rw[if_neg hi]
  by_cases hc:i < j
  ·rw[if_pos hc,if_pos (by omega)]
  ·rw[if_neg hc,if_neg (by omega)]
theorem Differ.full {A B Y:List Nat} {N:Nat} (h:Differ A B Y N N) (hA:N<=A.length) (hB:N<=B.length):Y=xorL (A.take N) (B.take N):=by
 have h1:(A.take N).length=N:=by rw[List.length_take];omega
 have h2:(B.take N).length=N:=by rw[List.length_take];omega
 refine getD_ext (by rw[xorL_length (by omega),h1];exact h.len) fun i => ?_
 rw[xorL_getD _ _ (by omega),h.at_]
 by_cases hi:i < N
 ·simp[List.getD,List.getElem?_take,hi]
 ·simp[List.getD,List.getElem?_take,hi]
theorem four_sums (n p s N:Nat) (hn:1<=n) (hp:p < 2^n) (hs:s < 2^n) (A B:List Nat) (hA:A.length=N) (hB:B.length=N) (hAb:∀ b∈A,b<=1) (hBb:∀ b∈B,b<=1) :
    ((runC n p s A ^^^ runC n p s B) ^^^ runC n p s (xorL A B)) ^^^ runC n p s (List.replicate N 0)=0:=by
 have hlen:(xorL A B).length=N:=by rw[xorL_length (by omega),hA]
 have hxb:∀ b∈xorL A B,b<=1:=by
  intro b hb
  obtain⟨i,hi,rfl⟩:=List.getElem_of_mem hb
  simp only[xorL,List.getElem_zipWith]
  rw[hlen] at hi
  exact xor_le (hAb _ (List.getElem_mem _)) (hBb _ (List.getElem_mem _))
 have h1:=runC_xor hn hp A B s s (by omega) hAb hBb hs hs
 have h2:=runC_xor hn hp (xorL A B) (List.replicate N 0) s s (by simp[hlen]) hxb (by simp) hs hs
 have h3:xorL (xorL A B) (List.replicate N 0)=xorL A B:=by
  refine getD_ext (by rw[xorL_length (by simp[hlen])]) fun i => ?_
  rw[xorL_getD _ _ (by simp[hlen])]
  simp[List.getD,List.getElem?_replicate]
  split<;>simp
 rw[Nat.xor_self] at h1 h2
 rw[h3] at h2
 rw[<- h1,Nat.xor_assoc,<- h2,Nat.xor_self]
end Go.Proofs.YtkofdbccdfpllaaDoor
