
/- The bits of a Classic frame as lists, ahead of all stuffing and on the wire. No conditions. -/
import Derived.Test.YtplbmlpdefpplaaGreatDoorGj
import Derived.Test.YtplbmlpdefpplaaGreatDoorGc
import Derived.Test.YtplbmlpdefpplaaGreatDoorGs
namespace Go.Proofs.YtplbmlpdefpplaaGreatDoor
set_option linter.unusedVariables false
set_option linter.unusedSimpArgs false
open Go.RowKit
variable {f:Hd} {a b l:List Nat} {d k n:Nat}
def zP(b:Bool):Nat:=if b then 1 else 0
theorem zQ(b:Bool):zP b<=1:=by cases b<;>simp[zP]
def zJ(X R:Bool)(i:Nat):List Nat :=
 if X then [0]++(zc (i / 262144) 11++([1,1]++(zc (i%262144) 18++[zP R,0,0])))else [0]++(zc i 11++[zP R,0,0])
def z1q(X R:Bool)(i:Nat)(l:List Nat):List Nat:=zJ X R i++(zc l.length 4++ze l)
def z1R(k:Int)(l:List Nat):List Nat:=zc (z45 (szK k) (z08 k) (zD k) l) (szK k)
def zS(X R:Bool)(i:Nat)(l:List Nat):List Nat:=z1q X R i l++z1R 1 (z1q X R i l)
def okC(f:Hd)(l:List Nat):Bool:=f.K==1&&okF f l
def zT(f:Hd)(l:List Nat):List Nat:=if okC f l then zS f.X f.R f.I.toNat l else []
def okE(f:Hd)(l:List Nat):Nat:=if okC f l then 0 else 2
def zhn(f:Hd)(l:List Nat):Nat:=if okC f l then(zJ f.X f.R f.I.toNat).length else 0
def ones(n:Nat):List Nat:=List.replicate n 1
def z0M(f:Hd)(l:List Nat):List Nat:=if okC f l then zh (zT f l)++ones 10 else []
def z1S(f:Hd)(l:List Nat):Nat:=if okC f l then(zh (zJ f.X f.R f.I.toNat)).length else 0
def z27(f:Hd)(l:List Nat):Nat:=if okC f l then(zh (zT f l)).length+1 else 0
theorem z4W:zc 0 1=[0]:=by decide
theorem zb9:zc 0 2=[0,0]:=by decide
theorem zbn:zc 3 2=[1,1]:=by decide
theorem z4Q(b:Bool):zc (zP b) 1=[zP b]:=by cases b<;>decide
theorem z01(n size:Nat):∀x∈zc n size,x<=1:=fun x hx=>by have:=z7x n size x hx;omega
theorem z2b(X R:Bool)(i:Nat):(zJ X R i).length=if X then 35 else 15:=by
 cases X<;>simp[zJ,zb]
theorem z7X(X R:Bool)(i:Nat):∀x∈zJ X R i,x<=1:=by
 have hR:=zQ R
 intro x hx
 unfold zJ at hx
 split at hx
 ·simp only[List.mem_append,List.mem_cons,List.not_mem_nil,or_false]at hx
  rcases hx with rfl | hx | (rfl | rfl) | hx | (rfl | rfl | rfl)
  ·omega
  ·exact z01 _ _ x hx
  ·omega
  ·omega
  ·exact z01 _ _ x hx
  ·exact hR
  ·omega
  ·omega
 ·simp only[List.mem_append,List.mem_cons,List.not_mem_nil,or_false]at hx
  rcases hx with rfl | hx | (rfl | rfl | rfl)
  ·omega
  ·exact z01 _ _ x hx
  ·exact hR
  ·omega
  ·omega
theorem z1J(l:List Nat):∀x∈ze l,x<=1:=by
 intro x hx
 unfold ze at hx
 obtain⟨y,_,hy⟩:=List.mem_flatMap.1 hx
 exact z01 _ _ x hy
theorem z3d(X R:Bool)(i:Nat)(l:List Nat):(z1q X R i l).length=(if X then 39 else 19)+8*l.length:=by
 rw[z1q,List.length_append,List.length_append,z2b,zb,zN]
 split<;>omega
theorem z53(X R:Bool)(i:Nat)(l:List Nat):∀x∈z1q X R i l,x<=1:=by
 intro x hx
 rcases List.mem_append.1 hx with h | h
 ·exact z7X _ _ _ x h
 ·rcases List.mem_append.1 h with h | h
  ·exact z01 _ _ x h
  ·exact z1J l x h
theorem z1G(k:Int)(l:List Nat):(z1R k l).length=szK k:=zb _ _
theorem z8n(X R:Bool)(i:Nat)(l:List Nat):(zS X R i l).length=(if X then 54 else 34)+8*l.length:=by
 rw[zS,List.length_append,z3d,z1G]
 have:szK 1=15:=by decide
 rw[this]
 split<;>omega
theorem z98(X R:Bool)(i:Nat)(l:List Nat):∀x∈zS X R i l,x<=1:=by
 intro x hx
 rcases List.mem_append.1 hx with h | h
 ·exact z53 _ _ _ _ x h
 ·exact z01 _ _ x h
theorem zcK(X R:Bool)(i:Nat)(l:List Nat):(zS X R i l).take (zJ X R i).length=zJ X R i:=by
 rw[zS,z1q,List.append_assoc,List.take_left]
theorem z2Y{k:Int}(hz:szK k≠0)(hc:chk l=true):z56 k l=l++z1R k l/\zgu k l=0:=by
 have hm:=z2W hz hc
 exact⟨by simp[z56,hm,z1R],(z63 hm).2⟩
theorem zmb(h:z2K 1 (n:Int)=true):n<=8:=by
 obtain⟨h1,h2⟩:=(z17 1 _).1 h
 have h3:z0r 1 (n:Int) < 9:=h1
 rw[at1 _ h3]at h2
 omega
theorem zjM(h:n<=8):z0s 1 (n:Int)=n/\z0t 1 (n:Int)=0:=by
 have hc:n < z0R 1:=by show n < 9;omega
 have:=z7m 1 (n:Int) n ((z2M 1 n).2 hc) (by
  have:isC 1 (n:Int)=true:=(z2M 1 n).2 hc
  simp[z0m,this,at1 n (by omega)])
 exact this
theorem z1u (h:okC f l=true) (hI:0<=f.I) :
    ∃i:Nat,f=⟨1,(i:Int),f.X,f.R,false,false,false,0,0,0⟩/\f.I.toNat=i/\l.length<=8/\(f.R=true->l=[])/\(f.X=false->i < 2048)/\i < 536870912:=by
 obtain⟨K,I,X,R,B,E,S,D,V,A⟩:=f
 simp only[okC,Bool.and_eq_true,beq_iff_eq]at h
 obtain⟨rfl,h⟩:=h
 rw[zbx]at h
 simp only[z4a,Bool.and_eq_true,Bool.or_eq_true,Bool.not_eq_true',decide_eq_true_eq,beq_iff_eq]at h
 obtain⟨hh,hr,hx,hi,rfl,rfl,rfl,rfl,rfl,rfl⟩:=h
 obtain⟨i,rfl⟩:=Int.eq_ofNat_of_zero_le (show 0<=I from hI)
 refine⟨i,by simp,by simp,zmb hh,?_,?_,by omega⟩
 ·intro hR
  simp only at hR
  rcases hr with h | h
  ·rw[h]at hR;cases hR
  ·exact List.eq_nil_of_length_eq_zero h
 ·intro hX
  simp only at hX
  rcases hx with h | h
  ·rw[h]at hX;cases hX
  ·omega
theorem z6P(h:okC f l=true):(zT f l).length=(if f.X then 54 else 34)+8*l.length:=by
 rw[zT,if_pos h,z8n]
theorem z54:∀x∈zT f l,x<=1:=by
 unfold zT
 split
 ·exact z98 _ _ _ _
 ·simp
theorem zmk(h:okC f l=true):l.length<=8:=by
 simp only[okC,okF,Bool.and_eq_true,beq_iff_eq]at h
 rw[h.1]at h
 exact zmb h.2.1
theorem z6N(n:Nat):∀x∈ones n,x<=1:=fun x hx=>Nat.le_of_eq (List.eq_of_mem_replicate hx)
theorem z0a(n:Nat):(ones n).length=n:=List.length_replicate
theorem zhh(h:okC f l=true):(z0M f l).length=(zh (zT f l)).length+10:=by
 rw[z0M,if_pos h,List.length_append,z0a]
theorem zgv:∀x∈z0M f l,x<=1:=by
 intro x hx
 unfold z0M at hx
 split at hx
 ·rcases List.mem_append.1 hx with h | h
  ·exact z0j z54 x h
  ·exact z6N _ x h
 ·simp at hx
theorem z8v(l m:List Nat):(zh l).length+m.length<=(zh (l++m)).length:=by
 refine zB (P:=fun m=>(zh l).length+m.length<=(zh (l++m)).length) (by simp) ?_ m
 intro m b ih
 rw[<- List.append_assoc,z0d]
 unfold z00
 split<;>simp<;>omega
theorem z5k(x:List Nat)(k:Nat)(hk:0 < k):k<=(zq (x++ones k)).2/\(zq (x++ones k)).1=1:=by
 induction k with
 | zero=>omega
 | succ k ih =>
   have e:x++ones (k+1)=(x++ones k)++[1]:=by simp[ones,List.replicate_succ',List.append_assoc]
   rw[e,z07]
   by_cases h0:k=0
   ·subst h0
    unfold z1I
    split
    ·rename_i h;exact⟨by simp,h.symm⟩
    ·exact⟨by simp,rfl⟩
   ·obtain⟨h1,h2⟩:=ih (by omega)
    unfold z1I
    rw[if_pos h2.symm]
    exact⟨by simp only;omega,h2⟩
theorem zdl(h:okC f l=true)(hk:k<=(zh (zT f l)).length):(z0M f l).take k=(zh (zT f l)).take k:=by
 rw[z0M,if_pos h,List.take_append_of_le_length hk]
theorem zgo(h:okC f l=true)(hk:k<=(zh (zT f l)).length):(zq ((z0M f l).take k)).2<=5:=by
 rw[zdl h hk]
 exact z3r (z4V (z2q z54) k)
def Less(a b:List Nat):Prop:=∃d,d < a.length/\d < b.length/\a.take d=b.take d/\a.getD d 0=0/\b.getD d 0=1
theorem Less.pre(h:Less a b)(c:List Nat):Less (c++a) (c++b):=by
 obtain⟨d,h1,h2,h3,h4,h5⟩:=h
 refine⟨c.length+d,by simp;omega,by simp;omega,by simp[List.take_append,h3],?_,?_⟩
 ·simpa [List.getD,List.getElem?_append_right]using h4
 ·simpa [List.getD,List.getElem?_append_right]using h5
theorem Less.post(h:Less a b)(x y:List Nat):Less (a++x) (b++y):=by
 obtain⟨d,h1,h2,h3,h4,h5⟩:=h
 refine⟨d,by simp;omega,by simp;omega,?_,?_,?_⟩
 ·rw[List.take_append_of_le_length (by omega),List.take_append_of_le_length (by omega),h3]
 ·rwa[List.getD,List.getElem?_append_left h1,<- List.getD]
 ·rwa[List.getD,List.getElem?_append_left h2,<- List.getD]
theorem z6g(n s:Nat):zc n (s+1)=zc (n / 2) s++[n%2]:=by
 unfold zc
 rw[List.range_succ,List.map_append]
 congr 1
 ·apply List.map_congr_left
  intro i hi
  have:i < s:=List.mem_range.1 hi
  rw[show s+1 - 1 - i=(s - 1 - i)+1 by omega,Nat.pow_succ,Nat.mul_comm,<- Nat.div_div_eq_div_mul]
 ·simp
theorem z6G(s:Nat):∀m n:Nat,m < n->n < 2^s->Less (zc m s) (zc n s):=by
 induction s with
 | zero=>intro m n h1 h2;simp at h2;omega
 | succ s ih =>
   intro m n h1 h2
   rw[Nat.pow_succ]at h2
   rw[z6g,z6g]
   by_cases he:m / 2=n / 2
   ·rw[he]
    refine Less.pre ?_ _
    exact⟨0,by simp,by simp,rfl,by simp;omega,by simp;omega⟩
   ·exact(ih (m / 2) (n / 2) (by omega) (by omega)).post _ _
theorem zdC(h:d < l.length):l.take (d+1)=l.take d++[l.getD d 0]:=by
 have:l[d]? = some (l.getD d 0):=by simp[List.getD,h]
 exact zX this
theorem z3O (h:d < l.length) {p:Nat} (hp:p=(zh (l.take d)).length+(if full (zh (l.take d))then 1 else 0)) :
    p < (zh l).length/\(zh l).getD p 0=l.getD d 0/\(zh l).take p=zh (l.take d)++(if full (zh (l.take d))then [1 - zl (zh (l.take d))]else []):=by
 obtain⟨Y,hY⟩:=z1g (l.take (d+1)) (l.drop (d+1))
 rw[List.take_append_drop,zdC h,z0d]at hY
 rw[hY]
 generalize zh (l.take d)=P at *
 generalize l.getD d 0=b at *
 unfold z00 at *
 subst hp
 cases hf:full P
 ·simp only[Bool.false_eq_true,if_false,List.append_nil,Nat.add_zero]
  refine⟨by simp,?_,?_⟩
  ·rw[List.append_assoc,List.getD,List.getElem?_append_right (Nat.le_refl _)]
   simp
  ·rw[List.append_assoc,List.take_left]
 ·simp only[if_true]
  refine⟨by simp,?_,?_⟩
  ·rw[List.append_assoc,List.getD,List.getElem?_append_right (by omega)]
   simp
  ·rw[List.append_assoc,List.take_append]
   simp[List.take_of_length_le]
theorem zgU(h:Less a b):Less (zh a) (zh b):=by
 obtain⟨d,h1,h2,h3,h4,h5⟩:=h
 obtain⟨p1,p2,p3⟩:=z3O h1 rfl
 rw[h3]at p1 p2 p3
 obtain⟨q1,q2,q3⟩:=z3O h2 rfl
 exact⟨_,p1,q1,by rw[p3,q3],by rw[p2,h4],by rw[q2,h5]⟩
theorem zgm{a b:Bool}(h:zP a=zP b):a=b:=by
 cases a<;>cases b<;>simp[zP]at h<;>rfl
end Go.Proofs.YtplbmlpdefpplaaGreatDoor
