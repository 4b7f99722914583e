
/- The bits of an XL frame as lists: its data part, and on the wire. No conditions but the fields' own widths. -/
import Derived.Test.YtkjjfnmeogpdbaaGreatDoorWir
namespace Go.Proofs.YtkjjfnmeogpdbaaGreatDoor
set_option linter.unusedVariables false
set_option linter.unusedSimpArgs false
open Go.RowKit
def zk(i:Nat):List Nat:=[0]++(zc i 11++[0,0,1,1,0])
def z1l(i:Nat):List Nat:=zr ((zi (zk i)).length - (zk i).length)
def z6A(i d n:Nat)(S:Bool):List Nat:=zc d 8++([z0k S]++(zc (n - 1) 11++z1l i))
def z33(i d v a:Nat)(S:Bool)(l:List Nat):List Nat:=(z6A i d l.length S++z1L 4 (zk i++z6A i d l.length S))++(zc v 8++(zc a 32++ze l))
def z0z(i d v a:Nat)(S:Bool)(l:List Nat):List Nat:=z33 i d v a S l++z1L 5 (z33 i d v a S l)
def zC:List Nat:=[1,0,0,1]
def z0w:List Nat:=[0,1,1,0]
def okX(f:Hd)(l:List Nat):Bool:=f.K==3&&okF f l
def bxC(f:Hd)(l:List Nat):List Nat:=if okX f l then z0z f.I.toNat f.D.toNat f.V.toNat f.A.toNat f.S l else []
def z3g(f:Hd)(l:List Nat):Nat:=if okX f l then 0 else 2
def rwX(f:Hd)(l:List Nat):List Nat:=((zi (zk f.I.toNat)++zC)++zv 8 false 1 (bxC f l))++z0w
def wxC(f:Hd)(l:List Nat):List Nat:=if okX f l then rwX f l++ones 10 else []
def z1A(f:Hd)(l:List Nat):Nat:=if okX f l then(zi (zk f.I.toNat)).length else 0
def z1V(f:Hd)(l:List Nat):Nat:=if okX f l then(rwX f l).length+1 else 0
theorem zU(i:Nat):(zk i).length=17:=by simp[zk,zb]
theorem z0g(i:Nat):∀x∈zk i,x<=1:=by
 intro x hx
 unfold zk at hx
 simp only[List.mem_append,List.mem_cons,List.not_mem_nil,or_false]at hx
 rcases hx with rfl | hx | (rfl | rfl | rfl | rfl | rfl)
 ·omega
 ·exact z00 _ _ x hx
 all_goals omega
theorem z2b(i d n:Nat)(S:Bool):(z6A i d n S).length=24:=by
 rw[z6A,List.length_append,List.length_append,List.length_append,zb,zb,z1l,z02]
 rfl
theorem z67(i d n:Nat)(S:Bool):∀x∈z6A i d n S,x<=1:=by
 intro x hx
 have h1:=z0o S
 unfold z6A at hx
 simp only[List.mem_append,List.mem_cons,List.not_mem_nil,or_false]at hx
 rcases hx with hx | rfl | hx | hx
 ·exact z00 _ _ x hx
 ·exact h1
 ·exact z00 _ _ x hx
 ·exact z0C _ x hx
theorem z4V(i d v a:Nat)(S:Bool)(l:List Nat):(z33 i d v a S l).length=77+8*l.length:=by
 rw[z33,List.length_append,List.length_append,List.length_append,List.length_append,z2b,z1z,zb,zb,zM]
 have:szK 4=13:=by decide
 omega
theorem z4L(i d v a:Nat)(S:Bool)(l:List Nat):∀x∈z33 i d v a S l,x<=1:=by
 intro x hx
 unfold z33 at hx
 simp only[List.mem_append]at hx
 rcases hx with (hx | hx) | hx | hx | hx
 ·exact z67 _ _ _ _ x hx
 ·exact z00 _ _ x hx
 ·exact z00 _ _ x hx
 ·exact z00 _ _ x hx
 ·exact z1w l x hx
theorem z77(i d v a:Nat)(S:Bool)(l:List Nat):(z0z i d v a S l).length=109+8*l.length:=by
 rw[z0z,List.length_append,z4V,z1z]
 have:szK 5=32:=by decide
 omega
theorem z6W(i d v a:Nat)(S:Bool)(l:List Nat):∀x∈z0z i d v a S l,x<=1:=by
 intro x hx
 rcases List.mem_append.1 hx with h | h
 ·exact z4L _ _ _ _ _ _ x h
 ·exact z00 _ _ x h
theorem ziF{n:Nat}(h:z2v 3 (n:Int)=true):1<=n/\n<=2048:=by
 obtain⟨h1,h2⟩:=(z17 3 _).1 h
 have h3:z0s 3 (n:Int) < 2048:=h1
 rw[at3]at h2
 omega
theorem zc8 {f:Hd} {l:List Nat} (h:okX f l=true) (hI:0<=f.I) :
    ∃i:Nat,f=⟨3,(i:Int),false,false,false,false,f.S,f.D,f.V,f.A⟩/\f.I.toNat=i/\1<=l.length/\l.length<=2048/\i < 2048:=by
 obtain⟨K,I,X,R,B,E,S,D,V,A⟩:=f
 simp only[okX,Bool.and_eq_true,beq_iff_eq]at h
 obtain⟨rfl,h⟩:=h
 rw[zcE]at h
 simp only[zfs,Bool.and_eq_true,Bool.not_eq_true',decide_eq_true_eq]at h
 obtain⟨hh,hi,rfl,rfl,rfl,rfl⟩:=h
 obtain⟨i,rfl⟩:=Int.eq_ofNat_of_zero_le (show 0<=I from hI)
 have:=ziF hh
 exact⟨i,by simp,by simp,this.1,this.2,by omega⟩
theorem zhD{f:Hd}{l:List Nat}(h:okX f l=true):1<=l.length/\l.length<=2048:=by
 simp only[okX,okF,Bool.and_eq_true,beq_iff_eq]at h
 rw[h.1]at h
 exact ziF h.2.1
theorem z9v{f:Hd}{l:List Nat}(h:okX f l=true):(bxC f l).length=109+8*l.length:=by rw[bxC,if_pos h,z77]
theorem z9J{f:Hd}{l:List Nat}:∀x∈bxC f l,x<=1:=by
 unfold bxC
 split
 ·exact z6W _ _ _ _ _ _
 ·simp
theorem zfL(i:Nat):zm (zi (zk i)++zC)=1/\(zq (zi (zk i)++zC)).2=1:=by
 rw[show zi (zk i)++zC=((zi (zk i)++[1,0])++[0])++[1] by simp[zC]]
 exact⟨z0J _ _,z25 (by rw[z0J];omega)⟩
theorem zgV(i:Nat):∀x∈zi (zk i)++zC,x<=1:=by
 intro x hx
 rcases List.mem_append.1 hx with h | h
 ·exact z0h (z0g i) x h
 ·simp[zC]at h
  omega
theorem z1Q{b:Nat}{Y:List Nat}{z:Nat}(h1:∀k,(zq (Y.take k)).2<=b)(h2:(zq (Y++[z])).2<=b):∀k,(zq ((Y++[z]).take k)).2<=b:=by
 intro k
 rcases Nat.lt_or_ge Y.length k with hk | hk
 ·rw[List.take_of_length_le (by simp;omega)];exact h2
 ·rw[List.take_append_of_le_length hk];exact h1 k
theorem zc9{b:Nat}{Y:List Nat}(h1:∀k,(zq (Y.take k)).2<=b){c:Nat}(hc:b<=c):∀k,(zq (Y.take k)).2<=c:=fun k=>Nat.le_trans (h1 k) hc
theorem zgr(i:Nat):∀k,(zq ((zi (zk i)++zC).take k)).2<=9:=by
 have h0:∀k,(zq ((zi (zk i)).take k)).2<=9:=zc9 (fun k=>z38 (z44 (z2e (z0g i)) k)) (by omega)
 have h5:=z38 (z2e (z0g i))
 have r1:=(z16 (zi (zk i)) 1).1
 have r2:=(z16 (zi (zk i)++[1]) 0).1
 have r3:=(z16 (zi (zk i)++[1]++[0]) 0).1
 have r4:=(z16 (zi (zk i)++[1]++[0]++[0]) 1).1
 rw[show zi (zk i)++zC=zi (zk i)++[1]++[0]++[0]++[1] by simp[zC]]
 exact z1Q (z1Q (z1Q (z1Q h0 (by omega)) (by omega)) (by omega)) (by omega)
theorem zd9{f:Hd}{l:List Nat}(h:okX f l=true):∀k,(zq ((rwX f l).take k)).2<=9:=by
 obtain⟨h1,h2⟩:=zfL f.I.toNat
 have hb:=z9v h
 have hl:=zhD h
 obtain⟨g1,g2⟩:=zbV (E:=8) (b:=9) (A:=false) (by omega) (by omega) (zgr f.I.toNat) (by omega) (.inr (by omega)) (z9J (f:=f) (l:=l))
 rw[h1]at g1 g2
 have hr:zaV 8 false (zq (zi (zk f.I.toNat)++zC)).2 (bxC f l).length=6:=by
  rw[hb]
  unfold zaV
  rw[if_neg (by omega),if_pos (.inr (by omega))]
  omega
 rw[hr]at g1
 unfold rwX
 generalize (zi (zk f.I.toNat)++zC)++zv 8 false 1 (bxC f l)=X at *
 have r1:=(z16 X 0).1
 have e2:(zq (X++[0]++[1])).2=1:=z25 (by rw[z0J];omega)
 have r3:=(z16 (X++[0]++[1]) 1).1
 have r4:=(z16 (X++[0]++[1]++[1]) 0).1
 rw[show X++z0w=X++[0]++[1]++[1]++[0] by simp[z0w]]
 exact z1Q (z1Q (z1Q (z1Q g2 (by omega)) (by omega)) (by omega)) (by omega)
theorem zgb(f:Hd)(l:List Nat):(zq (rwX f l)).2=1:=by
 rw[show rwX f l=((zi (zk f.I.toNat)++zC)++zv 8 false 1 (bxC f l)++[0,1])++[1]++[0] by simp[rwX,z0w]]
 exact z25 (by rw[z0J];omega)
theorem zgH(f:Hd)(l:List Nat):(rwX f l).length=(zi (zk f.I.toNat)).length+8+szF 8 false (bxC f l).length:=by
 rw[rwX,List.length_append,List.length_append,List.length_append,z1I]
 simp[zC,z0w]
 omega
theorem zfc(f:Hd)(l:List Nat):∀x∈rwX f l,x<=1:=by
 intro x hx
 unfold rwX at hx
 rcases List.mem_append.1 hx with hx | hx
 ·rcases List.mem_append.1 hx with hx | hx
  ·exact zgV _ x hx
  ·exact z22 z9J x hx
 ·simp[z0w]at hx
  omega
theorem zbT {f:Hd} {l:List Nat} (h:okX f l=true):∃P:Nat,P=(rwX f l).length/\chk (wxC f l)=true/\(wxC f l).length=P+10/\34<=P/\P<=50000/\(wxC f l).getD 0 0=0 /\
    z1V f l=P+1/\12<=z1A f l/\z1A f l+9<=P/\10<=(zq (wxC f l)).2/\(∀k,k<=P->(zq ((wxC f l).take k)).2<=9)/\(∀k,k<=z1A f l->(zq ((wxC f l).take k)).2<=5)/\(zq ((wxC f l).take P)).2=1:=by
 have hb:=z9v h
 have hl:=zhD h
 have h2:=zu (zk f.I.toNat)
 rw[zU]at h2
 have hr:=zgH f l
 rw[hb]at hr
 have hz:szF 8 false (109+8*l.length)<=20000/\109<=szF 8 false (109+8*l.length):=by
  unfold szF
  rw[if_neg (by omega)]
  constructor
  ·simp only[Bool.toNat_false];omega
  ·omega
 have hw:(wxC f l).length=(rwX f l).length+10:=by rw[wxC,if_pos h,List.length_append,z06]
 refine⟨_,rfl,?_,hw,by omega,by omega,?_,by rw[z1V,if_pos h],by rw[z1A,if_pos h];omega,by rw[z1A,if_pos h];omega,?_,?_,?_,?_⟩
 ·refine z0e (fun x hx => ?_) (by rw[hw];omega)
  rw[wxC,if_pos h]at hx
  rcases List.mem_append.1 hx with h1 | h1
  ·exact zfc f l x h1
  ·exact z6e _ x h1
 ·have h0:0 < (zk f.I.toNat).length:=by rw[zU];omega
  have hq:=(z6d h0 (p:=0) (by simp[z3e,z5Q])).2.1
  rw[wxC,if_pos h,rwX,List.append_assoc,List.append_assoc,List.append_assoc,List.getD,List.getElem?_append_left (by omega),<- List.getD,hq]
  simp[zk]
 ·rw[wxC,if_pos h]
  by_cases h10:0 < 10
  ·exact(z4W _ 10 h10).1
  ·omega
 ·intro k hk
  rw[wxC,if_pos h,List.take_append_of_le_length hk]
  exact zd9 h k
 ·intro k hk
  rw[z1A,if_pos h]at hk
  rw[wxC,if_pos h,rwX,List.append_assoc,List.append_assoc,List.append_assoc,List.take_append_of_le_length hk]
  exact z38 (z44 (z2e (z0g _)) k)
 ·rw[wxC,if_pos h,List.take_left]
  exact zgb f l
theorem Pc.all{A B:List Nat}(h:Pc A B)(hl:A.length=B.length):A=B:=by
 obtain⟨X,Y,h⟩:=h
 exact(List.append_inj h hl).1
def WdX(f:Hd):Prop:=0<=f.I/\0<=f.D/\f.D < 256/\0<=f.V/\f.V < 256/\0<=f.A/\f.A < 4294967296
end Go.Proofs.YtkjjfnmeogpdbaaGreatDoor
