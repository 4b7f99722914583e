
/- The bits of a Classic frame as lists, ahead of all stuffing and on the wire. No conditions. -/
import Derived.Test.YtkjjfnmeogpdbaaGreatDoorGj
import Derived.Test.YtkjjfnmeogpdbaaGreatDoorGc
import Derived.Test.YtkjjfnmeogpdbaaGreatDoorGs
namespace Go.Proofs.YtkjjfnmeogpdbaaGreatDoor
set_option linter.unusedVariables false
set_option linter.unusedSimpArgs false
open Go.RowKit
def z0k(b:Bool):Nat:=if b then 1 else 0
theorem z0o(b:Bool):z0k b<=1:=by cases b<;>simp[z0k]
def zN(X R:Bool)(i:Nat):List Nat :=
 if X then [0]++(zc (i / 262144) 11++([1,1]++(zc (i%262144) 18++[z0k R,0,0])))else [0]++(zc i 11++[z0k R,0,0])
def z1s(X R:Bool)(i:Nat)(l:List Nat):List Nat:=zN X R i++(zc l.length 4++ze l)
def z1L(k:Int)(l:List Nat):List Nat:=zc (z3t (szK k) (z04 k) (zG k) l) (szK k)
def zR(X R:Bool)(i:Nat)(l:List Nat):List Nat:=z1s X R i l++z1L 1 (z1s X R i l)
def okC(f:Hd)(l:List Nat):Bool:=f.K==1&&okF f l
def zS(f:Hd)(l:List Nat):List Nat:=if okC f l then zR f.X f.R f.I.toNat l else []
def okE(f:Hd)(l:List Nat):Nat:=if okC f l then 0 else 2
def zdN(f:Hd)(l:List Nat):Nat:=if okC f l then(zN f.X f.R f.I.toNat).length else 0
def ones(n:Nat):List Nat:=List.replicate n 1
def z0P(f:Hd)(l:List Nat):List Nat:=if okC f l then zi (zS f l)++ones 10 else []
def z1N(f:Hd)(l:List Nat):Nat:=if okC f l then(zi (zN f.X f.R f.I.toNat)).length else 0
def z1X(f:Hd)(l:List Nat):Nat:=if okC f l then(zi (zS f l)).length+1 else 0
theorem z4j:zc 0 1=[0]:=by decide
theorem z9P:zc 0 2=[0,0]:=by decide
theorem z9H:zc 3 2=[1,1]:=by decide
theorem z4g(b:Bool):zc (z0k b) 1=[z0k b]:=by cases b<;>decide
theorem z00(n size:Nat):∀x∈zc n size,x<=1:=fun x hx=>by have:=z6y n size x hx;omega
theorem z21(X R:Bool)(i:Nat):(zN X R i).length=if X then 35 else 15:=by
 cases X<;>simp[zN,zb]
theorem z7J(X R:Bool)(i:Nat):∀x∈zN X R i,x<=1:=by
 have hR:=z0o R
 intro x hx
 unfold zN at hx
 split at hx
 ·simp only[List.mem_append,List.mem_cons,List.not_mem_nil,or_false]at hx
  rcases hx with rfl | hx | (rfl | rfl) | hx | (rfl | rfl | rfl)
  ·omega
  ·exact z00 _ _ x hx
  ·omega
  ·omega
  ·exact z00 _ _ x hx
  ·exact hR
  ·omega
  ·omega
 ·simp only[List.mem_append,List.mem_cons,List.not_mem_nil,or_false]at hx
  rcases hx with rfl | hx | (rfl | rfl | rfl)
  ·omega
  ·exact z00 _ _ x hx
  ·exact hR
  ·omega
  ·omega
theorem z1w(l:List Nat):∀x∈ze l,x<=1:=by
 intro x hx
 unfold ze at hx
 obtain⟨y,_,hy⟩:=List.mem_flatMap.1 hx
 exact z00 _ _ x hy
theorem z2P(X R:Bool)(i:Nat)(l:List Nat):(z1s X R i l).length=(if X then 39 else 19)+8*l.length:=by
 rw[z1s,List.length_append,List.length_append,z21,zb,zM]
 split<;>omega
theorem z4c(X R:Bool)(i:Nat)(l:List Nat):∀x∈z1s X R i l,x<=1:=by
 intro x hx
 rcases List.mem_append.1 hx with h | h
 ·exact z7J _ _ _ x h
 ·rcases List.mem_append.1 h with h | h
  ·exact z00 _ _ x h
  ·exact z1w l x h
theorem z1z(k:Int)(l:List Nat):(z1L k l).length=szK k:=zb _ _
theorem z6M(X R:Bool)(i:Nat)(l:List Nat):(zR X R i l).length=(if X then 54 else 34)+8*l.length:=by
 rw[zR,List.length_append,z2P,z1z]
 have:szK 1=15:=by decide
 rw[this]
 split<;>omega
theorem z6G(X R:Bool)(i:Nat)(l:List Nat):∀x∈zR X R i l,x<=1:=by
 intro x hx
 rcases List.mem_append.1 hx with h | h
 ·exact z4c _ _ _ _ x h
 ·exact z00 _ _ x h
theorem zaF(X R:Bool)(i:Nat)(l:List Nat):(zR X R i l).take (zN X R i).length=zN X R i:=by
 rw[zR,z1s,List.append_assoc,List.take_left]
theorem z2x{k:Int}{l:List Nat}(hz:szK k≠0)(hc:chk l=true):z4k k l=l++z1L k l/\ze2 k l=0:=by
 have hm:=z2H hz hc
 exact⟨by simp[z4k,hm,z1L],(z4D hm).2⟩
theorem ziJ{n:Nat}(h:z2v 1 (n:Int)=true):n<=8:=by
 obtain⟨h1,h2⟩:=(z17 1 _).1 h
 have h3:z0s 1 (n:Int) < 9:=h1
 rw[at1 _ h3]at h2
 omega
theorem zhg{n:Nat}(h:n<=8):z0u 1 (n:Int)=n/\z0t 1 (n:Int)=0:=by
 have hc:n < z0S 1:=by show n < 9;omega
 have:=z69 1 (n:Int) n ((z2B 1 n).2 hc) (by
  have:isC 1 (n:Int)=true:=(z2B 1 n).2 hc
  simp[z0l,this,at1 n (by omega)])
 exact this
theorem z1F {f:Hd} {l:List Nat} (h:okC f l=true) (hI:0<=f.I) :
    ∃i:Nat,f=⟨1,(i:Int),f.X,f.R,false,false,false,0,0,0⟩/\f.I.toNat=i/\l.length<=8/\(f.R=true->l=[])/\(f.X=false->i < 2048)/\i < 536870912:=by
 obtain⟨K,I,X,R,B,E,S,D,V,A⟩:=f
 simp only[okC,Bool.and_eq_true,beq_iff_eq]at h
 obtain⟨rfl,h⟩:=h
 rw[z9R]at h
 simp only[z3u,Bool.and_eq_true,Bool.or_eq_true,Bool.not_eq_true',decide_eq_true_eq,beq_iff_eq]at h
 obtain⟨hh,hr,hx,hi,rfl,rfl,rfl,rfl,rfl,rfl⟩:=h
 obtain⟨i,rfl⟩:=Int.eq_ofNat_of_zero_le (show 0<=I from hI)
 refine⟨i,by simp,by simp,ziJ hh,?_,?_,by omega⟩
 ·intro hR
  simp only at hR
  rcases hr with h | h
  ·rw[h]at hR;cases hR
  ·exact List.eq_nil_of_length_eq_zero h
 ·intro hX
  simp only at hX
  rcases hx with h | h
  ·rw[h]at hX;cases hX
  ·omega
theorem z6t{f:Hd}{l:List Nat}(h:okC f l=true):(zS f l).length=(if f.X then 54 else 34)+8*l.length:=by
 rw[zS,if_pos h,z6M]
theorem z4a{f:Hd}{l:List Nat}:∀x∈zS f l,x<=1:=by
 unfold zS
 split
 ·exact z6G _ _ _ _
 ·simp
theorem ziK{f:Hd}{l:List Nat}(h:okC f l=true):l.length<=8:=by
 simp only[okC,okF,Bool.and_eq_true,beq_iff_eq]at h
 rw[h.1]at h
 exact ziJ h.2.1
theorem z6e(n:Nat):∀x∈ones n,x<=1:=fun x hx=>Nat.le_of_eq (List.eq_of_mem_replicate hx)
theorem z06(n:Nat):(ones n).length=n:=List.length_replicate
theorem zeX{f:Hd}{l:List Nat}(h:okC f l=true):(z0P f l).length=(zi (zS f l)).length+10:=by
 rw[z0P,if_pos h,List.length_append,z06]
theorem zdJ{f:Hd}{l:List Nat}:∀x∈z0P f l,x<=1:=by
 intro x hx
 unfold z0P at hx
 split at hx
 ·rcases List.mem_append.1 hx with h | h
  ·exact z0h z4a x h
  ·exact z6e _ x h
 ·simp at hx
theorem z7n(l m:List Nat):(zi l).length+m.length<=(zi (l++m)).length:=by
 refine zz (P:=fun m=>(zi l).length+m.length<=(zi (l++m)).length) (by simp) ?_ m
 intro m b ih
 rw[<- List.append_assoc,z0c]
 unfold zW
 split<;>simp<;>omega
theorem z4W(x:List Nat)(k:Nat)(hk:0 < k):k<=(zq (x++ones k)).2/\(zq (x++ones k)).1=1:=by
 induction k with
 | zero=>omega
 | succ k ih =>
   have e:x++ones (k+1)=(x++ones k)++[1]:=by simp[ones,List.replicate_succ',List.append_assoc]
   rw[e,z05]
   by_cases h0:k=0
   ·subst h0
    unfold z1v
    split
    ·rename_i h;exact⟨by simp,h.symm⟩
    ·exact⟨by simp,rfl⟩
   ·obtain⟨h1,h2⟩:=ih (by omega)
    unfold z1v
    rw[if_pos h2.symm]
    exact⟨by simp only;omega,h2⟩
theorem zbg{f:Hd}{l:List Nat}(h:okC f l=true){k:Nat}(hk:k<=(zi (zS f l)).length):(z0P f l).take k=(zi (zS f l)).take k:=by
 rw[z0P,if_pos h,List.take_append_of_le_length hk]
theorem zep{f:Hd}{l:List Nat}(h:okC f l=true){k:Nat}(hk:k<=(zi (zS f l)).length):(zq ((z0P f l).take k)).2<=5:=by
 rw[zbg h hk]
 exact z38 (z44 (z2e z4a) k)
def Less(a b:List Nat):Prop:=∃d,d < a.length/\d < b.length/\a.take d=b.take d/\a.getD d 0=0/\b.getD d 0=1
theorem Less.pre{a b:List Nat}(h:Less a b)(c:List Nat):Less (c++a) (c++b):=by
 obtain⟨d,h1,h2,h3,h4,h5⟩:=h
 refine⟨c.length+d,by simp;omega,by simp;omega,by simp[List.take_append,h3],?_,?_⟩
 ·simpa [List.getD,List.getElem?_append_right]using h4
 ·simpa [List.getD,List.getElem?_append_right]using h5
theorem Less.post{a b:List Nat}(h:Less a b)(x y:List Nat):Less (a++x) (b++y):=by
 obtain⟨d,h1,h2,h3,h4,h5⟩:=h
 refine⟨d,by simp;omega,by simp;omega,?_,?_,?_⟩
 ·rw[List.take_append_of_le_length (by omega),List.take_append_of_le_length (by omega),h3]
 ·rwa[List.getD,List.getElem?_append_left h1,<- List.getD]
 ·rwa[List.getD,List.getElem?_append_left h2,<- List.getD]
theorem bitsN_snoc(n s:Nat):zc n (s+1)=zc (n / 2) s++[n%2]:=by
 unfold zc
 rw[List.range_succ,List.map_append]
 congr 1
 ·apply List.map_congr_left
  intro i hi
  have:i < s:=List.mem_range.1 hi
  rw[show s+1 - 1 - i=(s - 1 - i)+1 by omega,Nat.pow_succ,Nat.mul_comm,<- Nat.div_div_eq_div_mul]
 ·simp
theorem bitsN_less(s:Nat):∀m n:Nat,m < n->n < 2^s->Less (zc m s) (zc n s):=by
 induction s with
 | zero=>intro m n h1 h2;simp at h2;omega
 | succ s ih =>
   intro m n h1 h2
   rw[Nat.pow_succ]at h2
   rw[bitsN_snoc,bitsN_snoc]
   by_cases he:m / 2=n / 2
   ·rw[he]
    refine Less.pre ?_ _
    exact⟨0,by simp,by simp,rfl,by simp;omega,by simp;omega⟩
   ·exact(ih (m / 2) (n / 2) (by omega) (by omega)).post _ _
theorem zbC{l:List Nat}{d:Nat}(h:d < l.length):l.take (d+1)=l.take d++[l.getD d 0]:=by
 have:l[d]? = some (l.getD d 0):=by simp[List.getD,h]
 exact zJ this
theorem z6d {l:List Nat} {d:Nat} (h:d < l.length) {p:Nat} (hp:p=(zi (l.take d)).length+(if full (zi (l.take d))then 1 else 0)) :
    p < (zi l).length/\(zi l).getD p 0=l.getD d 0/\(zi l).take p=zi (l.take d)++(if full (zi (l.take d))then [1 - zm (zi (l.take d))]else []):=by
 obtain⟨Y,hY⟩:=z56 (l.take (d+1)) (l.drop (d+1))
 rw[List.take_append_drop,zbC h,z0c]at hY
 rw[hY]
 generalize zi (l.take d)=P at *
 generalize l.getD d 0=b at *
 unfold zW at *
 subst hp
 cases hf:full P
 ·simp only[Bool.false_eq_true,if_false,List.append_nil,Nat.add_zero]
  refine⟨by simp,?_,?_⟩
  ·rw[List.append_assoc,List.getD,List.getElem?_append_right (Nat.le_refl _)]
   simp
  ·rw[List.append_assoc,List.take_left]
 ·simp only[if_true]
  refine⟨by simp,?_,?_⟩
  ·rw[List.append_assoc,List.getD,List.getElem?_append_right (by omega)]
   simp
  ·rw[List.append_assoc,List.take_append]
   simp[List.take_of_length_le]
theorem put_less{a b:List Nat}(h:Less a b):Less (zi a) (zi b):=by
 obtain⟨d,h1,h2,h3,h4,h5⟩:=h
 obtain⟨p1,p2,p3⟩:=z6d h1 rfl
 rw[h3]at p1 p2 p3
 obtain⟨q1,q2,q3⟩:=z6d h2 rfl
 exact⟨_,p1,q1,by rw[p3,q3],by rw[p2,h4],by rw[q2,h5]⟩
def Pc(A B:List Nat):Prop:=∃X Y,A++X=B++Y
theorem bitB_inj{a b:Bool}(h:z0k a=z0k b):a=b:=by
 cases a<;>cases b<;>simp[z0k]at h<;>rfl
end Go.Proofs.YtkjjfnmeogpdbaaGreatDoor
