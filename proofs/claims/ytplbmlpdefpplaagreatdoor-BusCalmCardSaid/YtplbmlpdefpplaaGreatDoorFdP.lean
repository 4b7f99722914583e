
/- The bits of an FD frame as lists, ahead of all stuffing and on the wire. No conditions. -/
import Derived.Test.YtplbmlpdefpplaaGreatDoorWir
namespace Go.Proofs.YtplbmlpdefpplaaGreatDoor
set_option linter.unusedVariables false
set_option linter.unusedSimpArgs false
open Go.RowKit
variable {f:Hd} {l:List Nat}
def headD(i:Nat):List Nat:=[0]++(zc i 11++[0,0,1,0])
def z0F(B E:Bool)(i:Nat)(l:List Nat):List Nat:=headD i++([zP B,zP E]++(zc (z0s 2 (l.length:Int)) 4++ze l))
def zx(n:Nat):Nat:=if 16 < n then 3 else 2
def zjF(n:Nat)(raw body:List Nat):List Nat:=zw (raw.length - body.length)++z1R (zx n) (raw++zw (raw.length - body.length))
def z4I(n:Nat)(raw body:List Nat):List Nat:=zv 4 true (zl raw) (zjF n raw body)
def okD(f:Hd)(l:List Nat):Bool:=f.K==2&&okF f l
def bdC(f:Hd)(l:List Nat):List Nat:=if okD f l then z0F f.B f.E f.I.toNat l else []
def z3w(f:Hd)(l:List Nat):Nat:=if okD f l then 0 else 2
def rwD(f:Hd)(l:List Nat):List Nat:=zh (bdC f l)++z4I l.length (zh (bdC f l)) (bdC f l)
def wdC(f:Hd)(l:List Nat):List Nat:=if okD f l then rwD f l++ones 10 else []
def z1O(f:Hd)(l:List Nat):Nat:=if okD f l then(zh (headD f.I.toNat)).length else 0
def z25(f:Hd)(l:List Nat):Nat:=if okD f l then(rwD f l).length+1 else 0
theorem z2Z(i:Nat):(headD i).length=16:=by simp[headD,zb]
theorem z8M(i:Nat):∀x∈headD i,x<=1:=by
 intro x hx
 unfold headD at hx
 simp only[List.mem_append,List.mem_cons,List.not_mem_nil,or_false]at hx
 rcases hx with rfl | hx | (rfl | rfl | rfl | rfl)
 ·omega
 ·exact z01 _ _ x hx
 all_goals omega
theorem zfh(B E:Bool)(i:Nat)(l:List Nat):(z0F B E i l).length=22+8*l.length:=by
 rw[z0F,List.length_append,List.length_append,List.length_append,z2Z,zb,zN]
 simp
 omega
theorem zdO(B E:Bool)(i:Nat)(l:List Nat):∀x∈z0F B E i l,x<=1:=by
 intro x hx
 have h1:=zQ B
 have h2:=zQ E
 unfold z0F at hx
 simp only[List.mem_append,List.mem_cons,List.not_mem_nil,or_false]at hx
 rcases hx with hx | (rfl | rfl) | hx | hx
 ·exact z8M _ x hx
 ·exact h1
 ·exact h2
 ·exact z01 _ _ x hx
 ·exact z1J l x hx
theorem z3c(n:Nat):szK (zx n:Int)=if 16 < n then 21 else 17:=by
 unfold zx
 split<;>decide
theorem zhL(n:Nat)(raw body:List Nat):(zjF n raw body).length=if 16 < n then 25 else 21:=by
 rw[zjF,List.length_append,z05,z1G,z3c]
 split<;>omega
theorem z73(k:Int)(l:List Nat):∀x∈z1R k l,x<=1:=z01 _ _
theorem z7F(n:Nat)(raw body:List Nat):∀x∈zjF n raw body,x<=1:=by
 intro x hx
 rcases List.mem_append.1 hx with h | h
 ·exact z0B _ x h
 ·exact z73 _ _ x h
theorem zg8(n:Nat)(raw body:List Nat):(z4I n raw body).length=szF 4 true (if 16 < n then 25 else 21):=by rw[z4I,z1T,zhL]
theorem z50(n:Nat)(raw body:List Nat):(z4I n raw body).length=if 16 < n then 32 else 27:=by
 rw[zg8]
 split<;>decide
theorem zhd(n:Nat)(raw body:List Nat):∀x∈z4I n raw body,x<=1:=z2e (z7F _ _ _)
theorem zlb{n:Nat}(h:z2K 2 (n:Int)=true):n<=64/\z0s 2 (n:Int) < 16/\z0t 2 (n:Int)=0/\(atF 2 (z0s 2 (n:Int)):Int)=n:=by
 obtain⟨h1,h2⟩:=(z17 2 _).1 h
 have h3:z0r 2 (n:Int) < 16:=h1
 have e1:z0s 2 (n:Int)=z0r 2 (n:Int):=by rw[z0s,if_pos h]
 rw[e1]
 refine⟨?_,h3,by rw[z0t,if_pos h],h2⟩
 rcases at2 _ h3 with h4 | h4 | h4 | h4 | h4 | h4 | h4 | h4<;>omega
theorem z1Q (h:okD f l=true) (hI:0<=f.I) :
    ∃i:Nat,f=⟨2,(i:Int),false,false,f.B,f.E,false,0,0,0⟩/\f.I.toNat=i/\z2K 2 (l.length:Int)=true/\i < 2048:=by
 obtain⟨K,I,X,R,B,E,S,D,V,A⟩:=f
 simp only[okD,Bool.and_eq_true,beq_iff_eq]at h
 obtain⟨rfl,h⟩:=h
 rw[zba]at h
 simp only[zh7,Bool.and_eq_true,Bool.not_eq_true',decide_eq_true_eq,beq_iff_eq]at h
 obtain⟨hh,hi,rfl,rfl,rfl,rfl,rfl,rfl⟩:=h
 obtain⟨i,rfl⟩:=Int.eq_ofNat_of_zero_le (show 0<=I from hI)
 exact⟨i,by simp,by simp,hh,by omega⟩
theorem zfe(h:okD f l=true):l.length<=64:=by
 simp only[okD,okF,Bool.and_eq_true,beq_iff_eq]at h
 rw[h.1]at h
 exact(zlb h.2.1).1
theorem z5L(h:okD f l=true):(bdC f l).length=22+8*l.length:=by rw[bdC,if_pos h,zfh]
theorem z4y:∀x∈bdC f l,x<=1:=by
 unfold bdC
 split
 ·exact zdO _ _ _ _
 ·simp
theorem zi6:∀x∈rwD f l,x<=1:=by
 intro x hx
 rcases List.mem_append.1 hx with h | h
 ·exact z0j z4y x h
 ·exact zhd _ _ _ x h
theorem zfs(f:Hd)(l:List Nat):(rwD f l).length=(zh (bdC f l)).length+(if 16 < l.length then 32 else 27):=by rw[rwD,List.length_append,z50]
theorem zju(f:Hd)(l:List Nat):∀k,(zq ((rwD f l).take k)).2<=5 :=
 (zeh (E:=4) (b:=5) (A:=true) (by omega) (by omega) (fun k=>z3r (z4V (z2q z4y) k)) (z1a (z0j z4y)) (.inl rfl) (z7F _ _ _)).2
theorem zd2 (h:okD f l=true):∃P:Nat,P=(rwD f l).length/\chk (wdC f l)=true/\(wdC f l).length=P+10/\34<=P/\P<=100000/\(wdC f l).getD 0 0=0 /\
    z25 f l=P+1/\12<=z1O f l/\z1O f l+9<=P/\10<=(zq (wdC f l)).2/\(∀k,k<=P->(zq ((wdC f l).take k)).2<=5):=by
 have hb:=z5L h
 have h8:=zfe h
 have h2:=zr (bdC f l)
 have hr:=zfs f l
 have hw:(wdC f l).length=(rwD f l).length+10:=by rw[wdC,if_pos h,List.length_append,z0a]
 have e:bdC f l=headD f.I.toNat++([zP f.B,zP f.E]++(zc (z0s 2 (l.length:Int)) 4++ze l)):=by rw[bdC,if_pos h,z0F]
 refine⟨_,rfl,?_,hw,by split at hr<;>omega,by split at hr<;>omega,?_,by rw[z25,if_pos h],?_,?_,?_,?_⟩
 ·refine z0g (fun x hx => ?_) (by rw[hw];split at hr<;>omega)
  rw[wdC,if_pos h]at hx
  rcases List.mem_append.1 hx with h1 | h1
  ·exact zi6 x h1
  ·exact z6N _ x h1
 ·have h0:0 < (bdC f l).length:=by omega
  have hq:=(z3O h0 (p:=0) (by simp[z3P,z74])).2.1
  rw[wdC,if_pos h,rwD,List.append_assoc,List.getD,List.getElem?_append_left (by omega),<- List.getD,hq,e]
  simp[headD]
 ·rw[z1O,if_pos h]
  have:=(zr (headD f.I.toNat)).2
  rw[z2Z]at this
  omega
 ·rw[z1O,if_pos h]
  have h1:=z8v (headD f.I.toNat) ([zP f.B,zP f.E]++(zc (z0s 2 (l.length:Int)) 4++ze l))
  rw[<- e]at h1
  split at hr<;>omega
 ·rw[wdC,if_pos h]
  by_cases h10:0 < 10
  ·exact(z5k _ 10 h10).1
  ·omega
 ·intro k hk
  rw[wdC,if_pos h,List.take_append_of_le_length hk]
  exact zju f l k
end Go.Proofs.YtplbmlpdefpplaaGreatDoor
