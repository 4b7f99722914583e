
/- The bits of an FD frame as lists, ahead of all stuffing and on the wire. No conditions. -/
import Derived.Test.YtkjjfnmeogpdbaaGreatDoorWir
namespace Go.Proofs.YtkjjfnmeogpdbaaGreatDoor
set_option linter.unusedVariables false
set_option linter.unusedSimpArgs false
open Go.RowKit
def headD(i:Nat):List Nat:=[0]++(zc i 11++[0,0,1,0])
def z0I(B E:Bool)(i:Nat)(l:List Nat):List Nat:=headD i++([z0k B,z0k E]++(zc (z0u 2 (l.length:Int)) 4++ze l))
def zx(n:Nat):Nat:=if 16 < n then 3 else 2
def zgv(n:Nat)(raw body:List Nat):List Nat:=zr (raw.length - body.length)++z1L (zx n) (raw++zr (raw.length - body.length))
def z53(n:Nat)(raw body:List Nat):List Nat:=zv 4 true (zm raw) (zgv n raw body)
def okD(f:Hd)(l:List Nat):Bool:=f.K==2&&okF f l
def bdC(f:Hd)(l:List Nat):List Nat:=if okD f l then z0I f.B f.E f.I.toNat l else []
def z32(f:Hd)(l:List Nat):Nat:=if okD f l then 0 else 2
def rwD(f:Hd)(l:List Nat):List Nat:=zi (bdC f l)++z53 l.length (zi (bdC f l)) (bdC f l)
def wdC(f:Hd)(l:List Nat):List Nat:=if okD f l then rwD f l++ones 10 else []
def z1O(f:Hd)(l:List Nat):Nat:=if okD f l then(zi (headD f.I.toNat)).length else 0
def z1W(f:Hd)(l:List Nat):Nat:=if okD f l then(rwD f l).length+1 else 0
theorem z2D(i:Nat):(headD i).length=16:=by simp[headD,zb]
theorem z7w(i:Nat):∀x∈headD i,x<=1:=by
 intro x hx
 unfold headD at hx
 simp only[List.mem_append,List.mem_cons,List.not_mem_nil,or_false]at hx
 rcases hx with rfl | hx | (rfl | rfl | rfl | rfl)
 ·omega
 ·exact z00 _ _ x hx
 all_goals omega
theorem zbP(B E:Bool)(i:Nat)(l:List Nat):(z0I B E i l).length=22+8*l.length:=by
 rw[z0I,List.length_append,List.length_append,List.length_append,z2D,zb,zM]
 simp
 omega
theorem zba(B E:Bool)(i:Nat)(l:List Nat):∀x∈z0I B E i l,x<=1:=by
 intro x hx
 have h1:=z0o B
 have h2:=z0o E
 unfold z0I at hx
 simp only[List.mem_append,List.mem_cons,List.not_mem_nil,or_false]at hx
 rcases hx with hx | (rfl | rfl) | hx | hx
 ·exact z7w _ x hx
 ·exact h1
 ·exact h2
 ·exact z00 _ _ x hx
 ·exact z1w l x hx
theorem z2X(n:Nat):szK (zx n:Int)=if 16 < n then 21 else 17:=by
 unfold zx
 split<;>decide
theorem ze8(n:Nat)(raw body:List Nat):(zgv n raw body).length=if 16 < n then 25 else 21:=by
 rw[zgv,List.length_append,z02,z1z,z2X]
 split<;>omega
theorem z5O(k:Int)(l:List Nat):∀x∈z1L k l,x<=1:=z00 _ _
theorem z6m(n:Nat)(raw body:List Nat):∀x∈zgv n raw body,x<=1:=by
 intro x hx
 rcases List.mem_append.1 hx with h | h
 ·exact z0C _ x h
 ·exact z5O _ _ x h
theorem zeR(n:Nat)(raw body:List Nat):(z53 n raw body).length=szF 4 true (if 16 < n then 25 else 21):=by rw[z53,z1I,ze8]
theorem z48(n:Nat)(raw body:List Nat):(z53 n raw body).length=if 16 < n then 32 else 27:=by
 rw[zeR]
 split<;>decide
theorem zeV(n:Nat)(raw body:List Nat):∀x∈z53 n raw body,x<=1:=z22 (z6m _ _ _)
theorem zhy{n:Nat}(h:z2v 2 (n:Int)=true):n<=64/\z0u 2 (n:Int) < 16/\z0t 2 (n:Int)=0/\(atF 2 (z0u 2 (n:Int)):Int)=n:=by
 obtain⟨h1,h2⟩:=(z17 2 _).1 h
 have h3:z0s 2 (n:Int) < 16:=h1
 have e1:z0u 2 (n:Int)=z0s 2 (n:Int):=by rw[z0u,if_pos h]
 rw[e1]
 refine⟨?_,h3,by rw[z0t,if_pos h],h2⟩
 rcases at2 _ h3 with h4 | h4 | h4 | h4 | h4 | h4 | h4 | h4<;>omega
theorem z1Z {f:Hd} {l:List Nat} (h:okD f l=true) (hI:0<=f.I) :
    ∃i:Nat,f=⟨2,(i:Int),false,false,f.B,f.E,false,0,0,0⟩/\f.I.toNat=i/\z2v 2 (l.length:Int)=true/\i < 2048:=by
 obtain⟨K,I,X,R,B,E,S,D,V,A⟩:=f
 simp only[okD,Bool.and_eq_true,beq_iff_eq]at h
 obtain⟨rfl,h⟩:=h
 rw[zbH]at h
 simp only[zfe,Bool.and_eq_true,Bool.not_eq_true',decide_eq_true_eq,beq_iff_eq]at h
 obtain⟨hh,hi,rfl,rfl,rfl,rfl,rfl,rfl⟩:=h
 obtain⟨i,rfl⟩:=Int.eq_ofNat_of_zero_le (show 0<=I from hI)
 exact⟨i,by simp,by simp,hh,by omega⟩
theorem zdi{f:Hd}{l:List Nat}(h:okD f l=true):l.length<=64:=by
 simp only[okD,okF,Bool.and_eq_true,beq_iff_eq]at h
 rw[h.1]at h
 exact(zhy h.2.1).1
theorem z5p{f:Hd}{l:List Nat}(h:okD f l=true):(bdC f l).length=22+8*l.length:=by rw[bdC,if_pos h,zbP]
theorem z3L{f:Hd}{l:List Nat}:∀x∈bdC f l,x<=1:=by
 unfold bdC
 split
 ·exact zba _ _ _ _
 ·simp
theorem zfy{f:Hd}{l:List Nat}:∀x∈rwD f l,x<=1:=by
 intro x hx
 rcases List.mem_append.1 hx with h | h
 ·exact z0h z3L x h
 ·exact zeV _ _ _ x h
theorem zfr(f:Hd)(l:List Nat):(rwD f l).length=(zi (bdC f l)).length+(if 16 < l.length then 32 else 27):=by rw[rwD,List.length_append,z48]
theorem zgp(f:Hd)(l:List Nat):∀k,(zq ((rwD f l).take k)).2<=5 :=
 (zbV (E:=4) (b:=5) (A:=true) (by omega) (by omega) (fun k=>z38 (z44 (z2e z3L) k)) (z0Z (z0h z3L)) (.inl rfl) (z6m _ _ _)).2
theorem zco {f:Hd} {l:List Nat} (h:okD f l=true):∃P:Nat,P=(rwD f l).length/\chk (wdC f l)=true/\(wdC f l).length=P+10/\34<=P/\P<=100000/\(wdC f l).getD 0 0=0 /\
    z1W f l=P+1/\12<=z1O f l/\z1O f l+9<=P/\10<=(zq (wdC f l)).2/\(∀k,k<=P->(zq ((wdC f l).take k)).2<=5):=by
 have hb:=z5p h
 have h8:=zdi h
 have h2:=zu (bdC f l)
 have hr:=zfr f l
 have hw:(wdC f l).length=(rwD f l).length+10:=by rw[wdC,if_pos h,List.length_append,z06]
 have e:bdC f l=headD f.I.toNat++([z0k f.B,z0k f.E]++(zc (z0u 2 (l.length:Int)) 4++ze l)):=by rw[bdC,if_pos h,z0I]
 refine⟨_,rfl,?_,hw,by split at hr<;>omega,by split at hr<;>omega,?_,by rw[z1W,if_pos h],?_,?_,?_,?_⟩
 ·refine z0e (fun x hx => ?_) (by rw[hw];split at hr<;>omega)
  rw[wdC,if_pos h]at hx
  rcases List.mem_append.1 hx with h1 | h1
  ·exact zfy x h1
  ·exact z6e _ x h1
 ·have h0:0 < (bdC f l).length:=by omega
  have hq:=(z6d h0 (p:=0) (by simp[z3e,z5Q])).2.1
  rw[wdC,if_pos h,rwD,List.append_assoc,List.getD,List.getElem?_append_left (by omega),<- List.getD,hq,e]
  simp[headD]
 ·rw[z1O,if_pos h]
  have:=(zu (headD f.I.toNat)).2
  rw[z2D]at this
  omega
 ·rw[z1O,if_pos h]
  have h1:=z7n (headD f.I.toNat) ([z0k f.B,z0k f.E]++(zc (z0u 2 (l.length:Int)) 4++ze l))
  rw[<- e]at h1
  split at hr<;>omega
 ·rw[wdC,if_pos h]
  by_cases h10:0 < 10
  ·exact(z4W _ 10 h10).1
  ·omega
 ·intro k hk
  rw[wdC,if_pos h,List.take_append_of_le_length hk]
  exact zgp f l k
end Go.Proofs.YtkjjfnmeogpdbaaGreatDoor
