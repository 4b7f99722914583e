
/- The bits of an XL frame as lists: its data part, and on the wire. No conditions but the fields' own widths. -/
import Derived.Test.YtplbmlpdefpplaaGreatDoorWir
namespace Go.Proofs.YtplbmlpdefpplaaGreatDoor
set_option linter.unusedVariables false
set_option linter.unusedSimpArgs false
open Go.RowKit
variable {f:Hd} {Y l:List Nat}
def zi(i:Nat):List Nat:=[0]++(zc i 11++[0,0,1,1,0])
def z1v(i:Nat):List Nat:=zw ((zh (zi i)).length - (zi i).length)
def z7J(i d n:Nat)(S:Bool):List Nat:=zc d 8++([zP S]++(zc (n - 1) 11++z1v i))
def z3q(i d v a:Nat)(S:Bool)(l:List Nat):List Nat:=(z7J i d l.length S++z1R 4 (zi i++z7J i d l.length S))++(zc v 8++(zc a 32++ze l))
def z0z(i d v a:Nat)(S:Bool)(l:List Nat):List Nat:=z3q i d v a S l++z1R 5 (z3q i d v a S l)
def zy:List Nat:=[1,0,0,1]
def z0u:List Nat:=[0,1,1,0]
def okX(f:Hd)(l:List Nat):Bool:=f.K==3&&okF f l
def bxC(f:Hd)(l:List Nat):List Nat:=if okX f l then z0z f.I.toNat f.D.toNat f.V.toNat f.A.toNat f.S l else []
def z3A(f:Hd)(l:List Nat):Nat:=if okX f l then 0 else 2
def rwX(f:Hd)(l:List Nat):List Nat:=((zh (zi f.I.toNat)++zy)++zv 8 false 1 (bxC f l))++z0u
def wxC(f:Hd)(l:List Nat):List Nat:=if okX f l then rwX f l++ones 10 else []
def z1y(f:Hd)(l:List Nat):Nat:=if okX f l then(zh (zi f.I.toNat)).length else 0
def z29(f:Hd)(l:List Nat):Nat:=if okX f l then(rwX f l).length+1 else 0
theorem zU(i:Nat):(zi i).length=17:=by simp[zi,zb]
theorem z0k(i:Nat):∀x∈zi i,x<=1:=by
 intro x hx
 unfold zi at hx
 simp only[List.mem_append,List.mem_cons,List.not_mem_nil,or_false]at hx
 rcases hx with rfl | hx | (rfl | rfl | rfl | rfl | rfl)
 ·omega
 ·exact z01 _ _ x hx
 all_goals omega
theorem z2u(i d n:Nat)(S:Bool):(z7J i d n S).length=24:=by
 rw[z7J,List.length_append,List.length_append,List.length_append,zb,zb,z1v,z05]
 rfl
theorem z7D(i d n:Nat)(S:Bool):∀x∈z7J i d n S,x<=1:=by
 intro x hx
 have h1:=zQ S
 unfold z7J at hx
 simp only[List.mem_append,List.mem_cons,List.not_mem_nil,or_false]at hx
 rcases hx with hx | rfl | hx | hx
 ·exact z01 _ _ x hx
 ·exact h1
 ·exact z01 _ _ x hx
 ·exact z0B _ x hx
theorem z5q(i d v a:Nat)(S:Bool)(l:List Nat):(z3q i d v a S l).length=77+8*l.length:=by
 rw[z3q,List.length_append,List.length_append,List.length_append,List.length_append,z2u,z1G,zb,zb,zN]
 have:szK 4=13:=by decide
 omega
theorem z5n(i d v a:Nat)(S:Bool)(l:List Nat):∀x∈z3q i d v a S l,x<=1:=by
 intro x hx
 unfold z3q at hx
 simp only[List.mem_append]at hx
 rcases hx with (hx | hx) | hx | hx | hx
 ·exact z7D _ _ _ _ x hx
 ·exact z01 _ _ x hx
 ·exact z01 _ _ x hx
 ·exact z01 _ _ x hx
 ·exact z1J l x hx
theorem z8w(i d v a:Nat)(S:Bool)(l:List Nat):(z0z i d v a S l).length=109+8*l.length:=by
 rw[z0z,List.length_append,z5q,z1G]
 have:szK 5=32:=by decide
 omega
theorem z94(i d v a:Nat)(S:Bool)(l:List Nat):∀x∈z0z i d v a S l,x<=1:=by
 intro x hx
 rcases List.mem_append.1 hx with h | h
 ·exact z5n _ _ _ _ _ _ x h
 ·exact z01 _ _ x h
theorem zmc{n:Nat}(h:z2K 3 (n:Int)=true):1<=n/\n<=2048:=by
 obtain⟨h1,h2⟩:=(z17 3 _).1 h
 have h3:z0r 3 (n:Int) < 2048:=h1
 rw[at3]at h2
 omega
theorem z8d (h:okX f l=true) (hI:0<=f.I) :
    ∃i:Nat,f=⟨3,(i:Int),false,false,false,false,f.S,f.D,f.V,f.A⟩/\f.I.toNat=i/\1<=l.length/\l.length<=2048/\i < 2048:=by
 obtain⟨K,I,X,R,B,E,S,D,V,A⟩:=f
 simp only[okX,Bool.and_eq_true,beq_iff_eq]at h
 obtain⟨rfl,h⟩:=h
 rw[zaT]at h
 simp only[zgG,Bool.and_eq_true,Bool.not_eq_true',decide_eq_true_eq]at h
 obtain⟨hh,hi,rfl,rfl,rfl,rfl⟩:=h
 obtain⟨i,rfl⟩:=Int.eq_ofNat_of_zero_le (show 0<=I from hI)
 have:=zmc hh
 exact⟨i,by simp,by simp,this.1,this.2,by omega⟩
theorem zle(h:okX f l=true):1<=l.length/\l.length<=2048:=by
 simp only[okX,okF,Bool.and_eq_true,beq_iff_eq]at h
 rw[h.1]at h
 exact zmc h.2.1
theorem z7L(h:okX f l=true):(bxC f l).length=109+8*l.length:=by rw[bxC,if_pos h,z8w]
theorem zaD:∀x∈bxC f l,x<=1:=by
 unfold bxC
 split
 ·exact z94 _ _ _ _ _ _
 ·simp
theorem zji(i:Nat):zl (zh (zi i)++zy)=1/\(zq (zh (zi i)++zy)).2=1:=by
 rw[show zh (zi i)++zy=((zh (zi i)++[1,0])++[0])++[1] by simp[zy]]
 exact⟨z0I _ _,z2f (by rw[z0I];omega)⟩
theorem zl3(i:Nat):∀x∈zh (zi i)++zy,x<=1:=by
 intro x hx
 rcases List.mem_append.1 hx with h | h
 ·exact z0j (z0k i) x h
 ·simp[zy]at h
  omega
theorem z23{b:Nat}{z:Nat}(h1:∀k,(zq (Y.take k)).2<=b)(h2:(zq (Y++[z])).2<=b):∀k,(zq ((Y++[z]).take k)).2<=b:=by
 intro k
 rcases Nat.lt_or_ge Y.length k with hk | hk
 ·rw[List.take_of_length_le (by simp;omega)];exact h2
 ·rw[List.take_append_of_le_length hk];exact h1 k
theorem zdG{b:Nat}(h1:∀k,(zq (Y.take k)).2<=b){c:Nat}(hc:b<=c):∀k,(zq (Y.take k)).2<=c:=fun k=>Nat.le_trans (h1 k) hc
theorem ziK(i:Nat):∀k,(zq ((zh (zi i)++zy).take k)).2<=9:=by
 have h0:∀k,(zq ((zh (zi i)).take k)).2<=9:=zdG (fun k=>z3r (z4V (z2q (z0k i)) k)) (by omega)
 have h5:=z3r (z2q (z0k i))
 have r1:=(z16 (zh (zi i)) 1).1
 have r2:=(z16 (zh (zi i)++[1]) 0).1
 have r3:=(z16 (zh (zi i)++[1]++[0]) 0).1
 have r4:=(z16 (zh (zi i)++[1]++[0]++[0]) 1).1
 rw[show zh (zi i)++zy=zh (zi i)++[1]++[0]++[0]++[1] by simp[zy]]
 exact z23 (z23 (z23 (z23 h0 (by omega)) (by omega)) (by omega)) (by omega)
theorem zeJ(h:okX f l=true):∀k,(zq ((rwX f l).take k)).2<=9:=by
 obtain⟨h1,h2⟩:=zji f.I.toNat
 have hb:=z7L h
 have hl:=zle h
 obtain⟨g1,g2⟩:=zeh (E:=8) (b:=9) (A:=false) (by omega) (by omega) (ziK f.I.toNat) (by omega) (.inr (by omega)) (zaD (f:=f) (l:=l))
 rw[h1]at g1 g2
 have hr:zcS 8 false (zq (zh (zi f.I.toNat)++zy)).2 (bxC f l).length=6:=by
  rw[hb]
  unfold zcS
  rw[if_neg (by omega),if_pos (.inr (by omega))]
  omega
 rw[hr]at g1
 unfold rwX
 generalize (zh (zi f.I.toNat)++zy)++zv 8 false 1 (bxC f l)=X at *
 have r1:=(z16 X 0).1
 have e2:(zq (X++[0]++[1])).2=1:=z2f (by rw[z0I];omega)
 have r3:=(z16 (X++[0]++[1]) 1).1
 have r4:=(z16 (X++[0]++[1]++[1]) 0).1
 rw[show X++z0u=X++[0]++[1]++[1]++[0] by simp[z0u]]
 exact z23 (z23 (z23 (z23 g2 (by omega)) (by omega)) (by omega)) (by omega)
theorem zif(f:Hd)(l:List Nat):(zq (rwX f l)).2=1:=by
 rw[show rwX f l=((zh (zi f.I.toNat)++zy)++zv 8 false 1 (bxC f l)++[0,1])++[1]++[0] by simp[rwX,z0u]]
 exact z2f (by rw[z0I];omega)
theorem zhT(f:Hd)(l:List Nat):(rwX f l).length=(zh (zi f.I.toNat)).length+8+szF 8 false (bxC f l).length:=by
 rw[rwX,List.length_append,List.length_append,List.length_append,z1T]
 simp[zy,z0u]
 omega
theorem zie(f:Hd)(l:List Nat):∀x∈rwX f l,x<=1:=by
 intro x hx
 unfold rwX at hx
 rcases List.mem_append.1 hx with hx | hx
 ·rcases List.mem_append.1 hx with hx | hx
  ·exact zl3 _ x hx
  ·exact z2e zaD x hx
 ·simp[z0u]at hx
  omega
theorem ze4 (h:okX f l=true):∃P:Nat,P=(rwX f l).length/\chk (wxC f l)=true/\(wxC f l).length=P+10/\34<=P/\P<=50000/\(wxC f l).getD 0 0=0 /\
    z29 f l=P+1/\12<=z1y f l/\z1y f l+9<=P/\10<=(zq (wxC f l)).2/\(∀k,k<=P->(zq ((wxC f l).take k)).2<=9)/\(∀k,k<=z1y f l->(zq ((wxC f l).take k)).2<=5)/\(zq ((wxC f l).take P)).2=1:=by
 have hb:=z7L h
 have hl:=zle h
 have h2:=zr (zi f.I.toNat)
 rw[zU]at h2
 have hr:=zhT f l
 rw[hb]at hr
 have hz:szF 8 false (109+8*l.length)<=20000/\109<=szF 8 false (109+8*l.length):=by
  unfold szF
  rw[if_neg (by omega)]
  constructor
  ·simp only[Bool.toNat_false];omega
  ·omega
 have hw:(wxC f l).length=(rwX f l).length+10:=by rw[wxC,if_pos h,List.length_append,z0a]
 refine⟨_,rfl,?_,hw,by omega,by omega,?_,by rw[z29,if_pos h],by rw[z1y,if_pos h];omega,by rw[z1y,if_pos h];omega,?_,?_,?_,?_⟩
 ·refine z0g (fun x hx => ?_) (by rw[hw];omega)
  rw[wxC,if_pos h]at hx
  rcases List.mem_append.1 hx with h1 | h1
  ·exact zie f l x h1
  ·exact z6N _ x h1
 ·have h0:0 < (zi f.I.toNat).length:=by rw[zU];omega
  have hq:=(z3O h0 (p:=0) (by simp[z3P,z74])).2.1
  rw[wxC,if_pos h,rwX,List.append_assoc,List.append_assoc,List.append_assoc,List.getD,List.getElem?_append_left (by omega),<- List.getD,hq]
  simp[zi]
 ·rw[wxC,if_pos h]
  by_cases h10:0 < 10
  ·exact(z5k _ 10 h10).1
  ·omega
 ·intro k hk
  rw[wxC,if_pos h,List.take_append_of_le_length hk]
  exact zeJ h k
 ·intro k hk
  rw[z1y,if_pos h]at hk
  rw[wxC,if_pos h,rwX,List.append_assoc,List.append_assoc,List.append_assoc,List.take_append_of_le_length hk]
  exact z3r (z4V (z2q (z0k _)) k)
 ·rw[wxC,if_pos h,List.take_left]
  exact zif f l
def WdX(f:Hd):Prop:=0<=f.I/\0<=f.D/\f.D < 256/\0<=f.V/\f.V < 256/\0<=f.A/\f.A < 4294967296
end Go.Proofs.YtplbmlpdefpplaaGreatDoor
