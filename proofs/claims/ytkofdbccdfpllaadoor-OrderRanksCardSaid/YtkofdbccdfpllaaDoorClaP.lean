
/- The bits of a Classic frame as lists, ahead of all stuffing and on the wire. No conditions. -/
import Derived.Test.YtkofdbccdfpllaaDoorGj
import Derived.Test.YtkofdbccdfpllaaDoorGc
import Derived.Test.YtkofdbccdfpllaaDoorGs
namespace Go.Proofs.YtkofdbccdfpllaaDoor
set_option linter.unusedVariables false
set_option linter.unusedSimpArgs false
open Go.RowKit
def bitB (b:Bool):Nat:=if b then 1 else 0
theorem bitB_le (b:Bool):bitB b<=1:=by cases b<;>simp[bitB]
def headC (X R:Bool) (i:Nat):List Nat :=
 if X then [0]++(bitsN (i / 262144) 11++([1,1]++(bitsN (i%262144) 18++[bitB R,0,0]))) else [0]++(bitsN i 11++[bitB R,0,0])
def preC (X R:Bool) (i:Nat) (l:List Nat):List Nat:=headC X R i++(bitsN l.length 4++bytesBits l)
def sumC (k:Int) (l:List Nat):List Nat:=bitsN (runC (szK k) (polyK k) (startK k) l) (szK k)
def bodyN (X R:Bool) (i:Nat) (l:List Nat):List Nat:=preC X R i l++sumC 1 (preC X R i l)
def okC (f:Hd) (l:List Nat):Bool:=f.K==1&&okF f l
def bodyC (f:Hd) (l:List Nat):List Nat:=if okC f l then bodyN f.X f.R f.I.toNat l else []
def okE (f:Hd) (l:List Nat):Nat:=if okC f l then 0 else 2
def arbN (f:Hd) (l:List Nat):Nat:=if okC f l then (headC f.X f.R f.I.toNat).length else 0
def ones (n:Nat):List Nat:=List.replicate n 1
def wireC (f:Hd) (l:List Nat):List Nat:=if okC f l then putL (bodyC f l)++ones 10 else []
def wArbC (f:Hd) (l:List Nat):Nat:=if okC f l then (putL (headC f.X f.R f.I.toNat)).length else 0
def wAckC (f:Hd) (l:List Nat):Nat:=if okC f l then (putL (bodyC f l)).length+1 else 0
theorem bitsN_01:bitsN 0 1=[0]:=by decide
theorem bitsN_02:bitsN 0 2=[0,0]:=by decide
theorem bitsN_32:bitsN 3 2=[1,1]:=by decide
theorem bitsN_b1 (b:Bool):bitsN (bitB b) 1=[bitB b]:=by cases b<;>decide
theorem bitsN_le (n size:Nat):∀ x∈bitsN n size,x<=1:=fun x hx=>by have:=bitsN_lt n size x hx;omega
theorem headC_len (X R:Bool) (i:Nat):(headC X R i).length=if X then 35 else 15:=by
 cases X<;>simp[headC,bitsN_length]
theorem headC_bit (X R:Bool) (i:Nat):∀ x∈headC X R i,x<=1:=by
 have hR:=bitB_le R
 intro x hx
 unfold headC at hx
 split at hx
 ·simp only[List.mem_append,List.mem_cons,List.not_mem_nil,or_false] at hx
  rcases hx with rfl | hx | (rfl | rfl) | hx | (rfl | rfl | rfl)
  ·omega
  ·exact bitsN_le _ _ x hx
  ·omega
  ·omega
  ·exact bitsN_le _ _ x hx
  ·exact hR
  ·omega
  ·omega
 ·simp only[List.mem_append,List.mem_cons,List.not_mem_nil,or_false] at hx
  rcases hx with rfl | hx | (rfl | rfl | rfl)
  ·omega
  ·exact bitsN_le _ _ x hx
  ·exact hR
  ·omega
  ·omega
theorem bytesBits_bit (l:List Nat):∀ x∈bytesBits l,x<=1:=by
 intro x hx
 unfold bytesBits at hx
 obtain⟨y,_,hy⟩:=List.mem_flatMap.1 hx
 exact bitsN_le _ _ x hy
theorem bytesBits_snoc {l:List Nat} {k x:Nat} (h:l[k]? = some x):bytesBits (l.take (k+1))=bytesBits (l.take k)++bitsN x 8:=by
 rw[take_snoc' h]
 simp[bytesBits]
theorem preC_len (X R:Bool) (i:Nat) (l:List Nat):(preC X R i l).length=(if X then 39 else 19)+8*l.length:=by
 rw[preC,List.length_append,List.length_append,headC_len,bitsN_length,bytesBits_len]
 split<;>omega
theorem preC_bit (X R:Bool) (i:Nat) (l:List Nat):∀ x∈preC X R i l,x<=1:=by
 intro x hx
 rcases List.mem_append.1 hx with h | h
 ·exact headC_bit _ _ _ x h
 ·rcases List.mem_append.1 h with h | h
  ·exact bitsN_le _ _ x h
  ·exact bytesBits_bit l x h
theorem sumC_len (k:Int) (l:List Nat):(sumC k l).length=szK k:=bitsN_length _ _
theorem bodyN_len (X R:Bool) (i:Nat) (l:List Nat):(bodyN X R i l).length=(if X then 54 else 34)+8*l.length:=by
 rw[bodyN,List.length_append,preC_len,sumC_len]
 have:szK 1=15:=by decide
 rw[this]
 split<;>omega
theorem bodyN_bit (X R:Bool) (i:Nat) (l:List Nat):∀ x∈bodyN X R i l,x<=1:=by
 intro x hx
 rcases List.mem_append.1 hx with h | h
 ·exact preC_bit _ _ _ _ x h
 ·exact bitsN_le _ _ x h
theorem bodyN_head (X R:Bool) (i:Nat) (l:List Nat):(bodyN X R i l).take (headC X R i).length=headC X R i:=by
 rw[bodyN,preC,List.append_assoc,List.take_left]
theorem sum_add {k:Int} {l:List Nat} (hz:szK k≠0) (hc:chk l=true):addL k l=l++sumC k l/\sumE k l=0:=by
 have hm:=moreOk_start hz hc
 exact⟨by simp[addL,hm,sumC],(sumN_ok hm).2⟩
theorem has1 {n:Nat} (h:hasF 1 (n:Int)=true):n<=8:=by
 obtain⟨h1,h2⟩:=(hasF_iff 1 _).1 h
 have h3:fitF 1 (n:Int) < 9:=h1
 rw[at1 _ h3] at h2
 omega
theorem code1 {n:Nat} (h:n<=8):codeV 1 (n:Int)=n/\codeE 1 (n:Int)=0:=by
 have hc:n < cntF 1:=by show n < 9;omega
 have:=code_hit 1 (n:Int) n ((isC_nat 1 n).2 hc) (by
  have:isC 1 (n:Int)=true:=(isC_nat 1 n).2 hc
  simp[sizeV,this,at1 n (by omega)])
 exact this
theorem okC_parts {f:Hd} {l:List Nat} (h:okC f l=true) (hI:0<=f.I) :
    ∃ i:Nat,f=⟨1,(i:Int),f.X,f.R,false,false,false,0,0,0⟩/\f.I.toNat=i/\l.length<=8/\(f.R=true->l=[])/\(f.X=false->i < 2048)/\i < 536870912:=by
 obtain⟨K,I,X,R,B,E,S,D,V,A⟩:=f
 simp only[okC,Bool.and_eq_true,beq_iff_eq] at h
 obtain⟨rfl,h⟩:=h
 rw[okF_cl] at h
 simp only[okCl,Bool.and_eq_true,Bool.or_eq_true,Bool.not_eq_true',decide_eq_true_eq,beq_iff_eq] at h
 obtain⟨hh,hr,hx,hi,rfl,rfl,rfl,rfl,rfl,rfl⟩:=h
 obtain⟨i,rfl⟩:=Int.eq_ofNat_of_zero_le (show 0<=I from hI)
 refine⟨i,by simp,by simp,has1 hh,?_,?_,by omega⟩
 ·intro hR
  simp only at hR
  rcases hr with h | h
  ·rw[h] at hR;cases hR
  ·exact List.eq_nil_of_length_eq_zero h
 ·intro hX
  simp only at hX
  rcases hx with h | h
  ·rw[h] at hX;cases hX
  ·omega
theorem body_len {f:Hd} {l:List Nat} (h:okC f l=true):(bodyC f l).length=(if f.X then 54 else 34)+8*l.length:=by
 rw[bodyC,if_pos h,bodyN_len]
theorem body_bit {f:Hd} {l:List Nat}:∀ x∈bodyC f l,x<=1:=by
 unfold bodyC
 split
 ·exact bodyN_bit _ _ _ _
 ·simp
theorem len8 {f:Hd} {l:List Nat} (h:okC f l=true):l.length<=8:=by
 simp only[okC,okF,Bool.and_eq_true,beq_iff_eq] at h
 rw[h.1] at h
 exact has1 h.2.1
theorem ones_bit (n:Nat):∀ x∈ones n,x<=1:=fun x hx=>Nat.le_of_eq (List.eq_of_mem_replicate hx)
theorem ones_len (n:Nat):(ones n).length=n:=List.length_replicate
theorem wire_len {f:Hd} {l:List Nat} (h:okC f l=true):(wireC f l).length=(putL (bodyC f l)).length+10:=by
 rw[wireC,if_pos h,List.length_append,ones_len]
theorem wire_bit {f:Hd} {l:List Nat}:∀ x∈wireC f l,x<=1:=by
 intro x hx
 unfold wireC at hx
 split at hx
 ·rcases List.mem_append.1 hx with h | h
  ·exact putL_bit body_bit x h
  ·exact ones_bit _ x h
 ·simp at hx
theorem putL_more (l m:List Nat):(putL l).length+m.length<=(putL (l++m)).length:=by
 refine snocInd (P:=fun m=>(putL l).length+m.length<=(putL (l++m)).length) (by simp) ?_ m
 intro m b ih
 rw[<- List.append_assoc,putL_snoc]
 unfold putStep
 split<;>simp<;>omega
theorem runS_ones (x:List Nat) (k:Nat) (hk:0 < k):k<=(runS (x++ones k)).2/\(runS (x++ones k)).1=1:=by
 induction k with
 | zero=>omega
 | succ k ih =>
   have e:x++ones (k+1)=(x++ones k)++[1]:=by simp[ones,List.replicate_succ',List.append_assoc]
   rw[e,runS_snoc]
   by_cases h0:k=0
   ·subst h0
    unfold stepR
    split
    ·rename_i h;exact⟨by simp,h.symm⟩
    ·exact⟨by simp,rfl⟩
   ·obtain⟨h1,h2⟩:=ih (by omega)
    unfold stepR
    rw[if_pos h2.symm]
    exact⟨by simp only;omega,h2⟩
theorem wire_take {f:Hd} {l:List Nat} (h:okC f l=true) {k:Nat} (hk:k<=(putL (bodyC f l)).length):(wireC f l).take k=(putL (bodyC f l)).take k:=by
 rw[wireC,if_pos h,List.take_append_of_le_length hk]
theorem wire_run {f:Hd} {l:List Nat} (h:okC f l=true) {k:Nat} (hk:k<=(putL (bodyC f l)).length):(runS ((wireC f l).take k)).2<=5:=by
 rw[wire_take h hk]
 exact okS_run (okS_take (okS_putL body_bit) k)
def Less (a b:List Nat):Prop:=∃ d,d < a.length/\d < b.length/\a.take d=b.take d/\a.getD d 0=0/\b.getD d 0=1
theorem Less.pre {a b:List Nat} (h:Less a b) (c:List Nat):Less (c++a) (c++b):=by
 obtain⟨d,h1,h2,h3,h4,h5⟩:=h
 refine⟨c.length+d,by simp;omega,by simp;omega,by simp[List.take_append,h3],?_,?_⟩
 ·simpa [List.getD,List.getElem?_append_right] using h4
 ·simpa [List.getD,List.getElem?_append_right] using h5
theorem Less.post {a b:List Nat} (h:Less a b) (x y:List Nat):Less (a++x) (b++y):=by
 obtain⟨d,h1,h2,h3,h4,h5⟩:=h
 refine⟨d,by simp;omega,by simp;omega,?_,?_,?_⟩
 ·rw[List.take_append_of_le_length (by omega),List.take_append_of_le_length (by omega),h3]
 ·rwa[List.getD,List.getElem?_append_left h1,<- List.getD]
 ·rwa[List.getD,List.getElem?_append_left h2,<- List.getD]
theorem bitsN_snoc (n s:Nat):bitsN n (s+1)=bitsN (n / 2) s++[n%2]:=by
 unfold bitsN
 rw[List.range_succ,List.map_append]
 congr 1
 ·apply List.map_congr_left
  intro i hi
  have:i < s:=List.mem_range.1 hi
  rw[show s+1 - 1 - i=(s - 1 - i)+1 by omega,Nat.pow_succ,Nat.mul_comm,<- Nat.div_div_eq_div_mul]
 ·simp
theorem bitsN_less (s:Nat):∀ m n:Nat,m < n->n < 2^s->Less (bitsN m s) (bitsN n s):=by
 induction s with
 | zero=>intro m n h1 h2;simp at h2;omega
 | succ s ih =>
   intro m n h1 h2
   rw[Nat.pow_succ] at h2
   rw[bitsN_snoc,bitsN_snoc]
   by_cases he:m / 2=n / 2
   ·rw[he]
    refine Less.pre ?_ _
    exact⟨0,by simp,by simp,rfl,by simp;omega,by simp;omega⟩
   ·exact (ih (m / 2) (n / 2) (by omega) (by omega)).post _ _
theorem head_less (X R R':Bool) (i j:Nat) (hij:i < j) (hX:X=false->j < 2048) (hj:j < 536870912):Less (headC X R i) (headC X R' j):=by
 cases X with
 | false =>
   have:=hX rfl
   simp only[headC,Bool.false_eq_true,if_false]
   exact ((bitsN_less 11 i j hij (by omega)).post _ _).pre _
 | true =>
   simp only[headC,if_true]
   refine Less.pre ?_ _
   by_cases h:i / 262144=j / 262144
   ·rw[h]
    refine Less.pre (Less.pre (Less.post (bitsN_less 18 _ _ ?_ ?_) _ _) _) _<;>omega
   ·exact (bitsN_less 11 _ _ (by omega) (by omega)).post _ _
theorem getD_take {l:List Nat} {d:Nat} (h:d < l.length):l.take (d+1)=l.take d++[l.getD d 0]:=by
 have:l[d]? = some (l.getD d 0):=by simp[List.getD,h]
 exact take_snoc' this
theorem put_getD {l:List Nat} {d:Nat} (h:d < l.length) {p:Nat} (hp:p=(putL (l.take d)).length+(if full (putL (l.take d)) then 1 else 0)) :
    p < (putL l).length/\(putL l).getD p 0=l.getD d 0/\(putL l).take p=putL (l.take d)++(if full (putL (l.take d)) then [1 - lastB (putL (l.take d))] else []):=by
 obtain⟨Y,hY⟩:=putL_append (l.take (d+1)) (l.drop (d+1))
 rw[List.take_append_drop,getD_take h,putL_snoc] at hY
 rw[hY]
 generalize putL (l.take d)=P at *
 generalize l.getD d 0=b at *
 unfold putStep at *
 subst hp
 cases hf:full P
 ·simp only[Bool.false_eq_true,if_false,List.append_nil,Nat.add_zero]
  refine⟨by simp,?_,?_⟩
  ·rw[List.append_assoc,List.getD,List.getElem?_append_right (Nat.le_refl _)]
   simp
  ·rw[List.append_assoc,List.take_left]
 ·simp only[if_true]
  refine⟨by simp,?_,?_⟩
  ·rw[List.append_assoc,List.getD,List.getElem?_append_right (by omega)]
   simp
  ·rw[List.append_assoc,List.take_append]
   simp[List.take_of_length_le]
theorem put_less {a b:List Nat} (h:Less a b):Less (putL a) (putL b):=by
 obtain⟨d,h1,h2,h3,h4,h5⟩:=h
 obtain⟨p1,p2,p3⟩:=put_getD h1 rfl
 rw[h3] at p1 p2 p3
 obtain⟨q1,q2,q3⟩:=put_getD h2 rfl
 exact⟨_,p1,q1,by rw[p3,q3],by rw[p2,h4],by rw[q2,h5]⟩
def Pc (A B:List Nat):Prop:=∃ X Y,A++X=B++Y
theorem Pc.peel {H H' T T':List Nat} (h:Pc (H++T) (H'++T')) (hl:H.length=H'.length):H=H'/\Pc T T':=by
 obtain⟨X,Y,h⟩:=h
 rw[List.append_assoc,List.append_assoc] at h
 obtain⟨h1,h2⟩:=List.append_inj h hl
 exact⟨h1,X,Y,h2⟩
theorem Pc.sym {A B:List Nat} (h:Pc A B):Pc B A:=by
 obtain⟨X,Y,h⟩:=h
 exact⟨Y,X,h.symm⟩
theorem bitsN_inj {m n s:Nat} (h:bitsN m s=bitsN n s) (hm:m < 2^s) (hn:n < 2^s):m=n:=by
 rw[<- numN_bitsN m s hm,<- numN_bitsN n s hn,h]
theorem bitB_inj {a b:Bool} (h:bitB a=bitB b):a=b:=by
 cases a<;>cases b<;>simp[bitB] at h<;>rfl
theorem bytesBits_inj {l l':List Nat} (h:bytesBits l=bytesBits l') (hl:∀ x∈l,x < 256) (hl':∀ x∈l',x < 256):l=l':=by
 rw[<- packN_bytes l hl,<- packN_bytes l' hl']
 exact congrArg packN h
theorem head_peel {X R X' R':Bool} {i i':Nat} {T T':List Nat} (h:Pc (headC X R i++T) (headC X' R' i'++T'))
    (hX:X=false->i < 2048) (hi:i < 536870912) (hX':X'=false->i' < 2048) (hi':i' < 536870912):X=X'/\R=R'/\i=i'/\Pc T T':=by
 cases X<;>cases X'<;>simp only[headC,if_true,Bool.false_eq_true,if_false,List.append_assoc] at h
 ·have j1:=hX rfl
  have j2:=hX' rfl
  obtain⟨_,h⟩:=h.peel rfl
  obtain⟨e1,h⟩:=h.peel (by simp[bitsN_length])
  obtain⟨e2,h⟩:=h.peel rfl
  simp only[List.cons.injEq,and_true] at e2
  exact⟨rfl,bitB_inj e2,bitsN_inj e1 (by omega) (by omega),h⟩
 ·obtain⟨_,h⟩:=h.peel rfl
  obtain⟨e1,h⟩:=h.peel (by simp[bitsN_length])
  have h2:Pc ([bitB R,0]++([0]++T)) ([1,1]++(bitsN (i'%262144) 18++([bitB R',0,0]++T'))):=by simpa using h
  have:=(h2.peel rfl).1
  simp at this
 ·obtain⟨_,h⟩:=h.peel rfl
  obtain⟨e1,h⟩:=h.peel (by simp[bitsN_length])
  have h2:Pc ([1,1]++(bitsN (i%262144) 18++([bitB R,0,0]++T))) ([bitB R',0]++([0]++T')):=by simpa using h
  have:=(h2.peel rfl).1
  simp at this
 ·obtain⟨_,h⟩:=h.peel rfl
  obtain⟨e1,h⟩:=h.peel (by simp[bitsN_length])
  obtain⟨_,h⟩:=h.peel rfl
  obtain⟨e2,h⟩:=h.peel (by simp[bitsN_length])
  obtain⟨e3,h⟩:=h.peel rfl
  simp only[List.cons.injEq,and_true] at e3
  have a1:=bitsN_inj e1 (by omega) (by omega)
  have a2:=bitsN_inj e2 (by omega) (by omega)
  exact⟨rfl,bitB_inj e3,by omega,h⟩
theorem body_peel {X R X' R':Bool} {i i':Nat} {l l':List Nat} (h:Pc (bodyN X R i l) (bodyN X' R' i' l')) (hl:l.length<=8) (hl':l'.length<=8)
    (hb:∀ x∈l,x < 256) (hb':∀ x∈l',x < 256)
    (hX:X=false->i < 2048) (hi:i < 536870912) (hX':X'=false->i' < 2048) (hi':i' < 536870912):X=X'/\R=R'/\i=i'/\l=l':=by
 unfold bodyN preC at h
 rw[List.append_assoc,List.append_assoc,List.append_assoc,List.append_assoc] at h
 obtain⟨h1,h2,h3,h⟩:=head_peel h hX hi hX' hi'
 obtain⟨e1,h⟩:=h.peel (by simp[bitsN_length])
 have e2:=bitsN_inj e1 (by omega) (by omega)
 obtain⟨e3,_⟩:=h.peel (by rw[bytesBits_len,bytesBits_len,e2])
 exact⟨h1,h2,h3,bytesBits_inj e3 hb hb'⟩
theorem put_peel {a b x y:List Nat} (ha:∀ z∈a,z<=1) (hb:∀ z∈b,z<=1) (h:Pc (putL a++x) (putL b++y)):Pc a b:=by
 obtain⟨X,Y,h⟩:=h
 rw[List.append_assoc,List.append_assoc] at h
 have key:∀ {a b x y:List Nat},(∀ z∈a,z<=1)->(∀ z∈b,z<=1)->putL a++x=putL b++y->a.length<=b.length->Pc a b:=by
  intro a b x y ha hb h hl
  have g1:=readG_parts ha x (k:=a.length) (Nat.le_refl _)
  have g2:=readG_parts hb y (k:=a.length) hl
  rw[h,g2] at g1
  simp only[Prod.mk.injEq,and_true] at g1
  have t1:=(tell_putL (l:=b.take a.length) (fun z hz=>hb z (List.mem_of_mem_take hz))).1
  have t2:=(tell_putL (l:=a.take a.length) (fun z hz=>ha z (List.mem_of_mem_take hz))).1
  rw[g1,t2,List.take_length] at t1
  exact⟨b.drop a.length,[],by rw[List.append_nil];exact (congrArg (·++b.drop a.length) t1).trans (List.take_append_drop _ _)⟩
 rcases Nat.le_total a.length b.length with hl | hl
 ·exact key ha hb h hl
 ·exact (key hb ha h.symm hl).sym
theorem pc_of_take {a b:List Nat} {m:Nat} (hm:a.length<=m\/b.length<=m) (h:a.take m=b.take m):Pc a b:=by
 rcases hm with hm | hm
 ·rw[List.take_of_length_le hm] at h
  exact⟨b.drop m,[],by rw[h,List.take_append_drop,List.append_nil]⟩
 ·rw[List.take_of_length_le hm] at h
  exact⟨[],a.drop m,by rw[<- h,List.take_append_drop,List.append_nil]⟩
theorem wire_apart {f g:Hd} {l l':List Nat} (hf:okC f l=true) (hg:okC g l'=true) (hI:0<=f.I) (hJ:0<=g.I) (hb:∀ x∈l,x < 256) (hb':∀ x∈l',x < 256) :
    ((wireC f l).take (min (wireC f l).length (wireC g l').length)=(wireC g l').take (min (wireC f l).length (wireC g l').length))↔sameF f g l l'=true:=by
 constructor
 ·intro h
  have hp:=pc_of_take (by omega) h
  obtain⟨i,ef,et,el,er,ex,ei⟩:=okC_parts hf hI
  obtain⟨j,eg,et',el',er',ex',ei'⟩:=okC_parts hg hJ
  simp only[wireC,bodyC,hf,hg,if_true,et,et'] at hp
  have hq:=put_peel (bodyN_bit _ _ _ _) (bodyN_bit _ _ _ _) hp
  obtain⟨e1,e2,e3,e4⟩:=body_peel hq el el' hb hb' ex ei ex' ei'
  rw[sameF_iff]
  refine⟨?_,e4⟩
  rw[ef,eg,e1,e2,e3]
 ·intro h
  obtain⟨rfl,rfl⟩:=(sameF_iff _ _ _ _).1 h
  rfl
theorem wire_most {f:Hd} {l:List Nat} (h:okC f l=true):(wireC f l).length<=54+8*l.length+(54+8*l.length - 1) / 4+10/\(bodyC f l).length < (wireC f l).length:=by
 have hb:=body_len h
 obtain⟨h1,h2⟩:=putL_most (l:=bodyC f l) body_bit
 have h3:=h2 (by intro e;rw[e] at hb;simp at hb;split at hb<;>omega)
 have h4:=(putL_len2 (bodyC f l)).2
 rw[wire_len h]
 split at hb<;>omega
end Go.Proofs.YtkofdbccdfpllaaDoor
