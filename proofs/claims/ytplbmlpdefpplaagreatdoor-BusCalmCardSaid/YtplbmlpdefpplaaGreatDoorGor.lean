/- Places by rising keys, and more. Conditions: as each says. -/
import Derived.Test.YtplbmlpdefpplaaGreatDoorScK
set_option maxHeartbeats 1600000
set_option maxRecDepth 100000
namespace Go.Proofs.YtplbmlpdefpplaaGreatDoor
set_option linter.unusedVariables false
set_option linter.unusedSimpArgs false
open Go.RowKit
variable {f g:Hd} {ks l:List Nat} {cap fuel:Nat} {H:Type} {w:World}
def leP(p q:Nat × Nat):Prop:=p.1 < q.1\/p.1=q.1/\p.2<=q.2
instance (p q:Nat × Nat):Decidable (leP p q):=by unfold leP;infer_instance
def leB(p q:Nat × Nat):Bool:=decide (leP p q)
def ahB(p q:Nat × Nat):Bool:=if p.1=q.1 then decide (p.2 < q.2)else decide (p.1 < q.1)
theorem z7w(p q:Nat × Nat):ahB p q=true↔¬leP q p:=by
 unfold ahB leP
 split<;>simp<;>omega
theorem z7o(p:Nat × Nat):leP p p:=by unfold leP;omega
theorem z61{p q r:Nat × Nat}(h:leP p q)(k:leP q r):leP p r:=by unfold leP at *;omega
theorem z7P(p q:Nat × Nat):leP p q\/leP q p:=by unfold leP;omega
theorem zgD{p q:Nat × Nat}(h:leP p q)(k:leP q p):p=q:=by
 obtain⟨a,b⟩:=p
 obtain⟨c,d⟩:=q
 unfold leP at *
 simp only at h k
 have:a=c/\b=d:=by omega
 rw[this.1,this.2]
theorem zf0{p q:Nat × Nat}(h:¬leP p q):leP q p:=(z7P p q).resolve_left h
abbrev d0:Nat × Nat:=(0,0)
def prs(ks:List Nat):List (Nat × Nat):=ks.zipIdx
def rkP(ks:List Nat):List (Nat × Nat):=(prs ks).mergeSort leB
def rk(ks:List Nat):List Nat:=(rkP ks).map (·.2)
theorem z55(ks:List Nat):(rkP ks).Perm (prs ks):=List.mergeSort_perm _ _
theorem z6h(ks:List Nat):(rkP ks).Pairwise leP:=by
 have:=List.pairwise_mergeSort (le:=leB) (fun a b c h k=>by simp only[leB,decide_eq_true_eq]at *;exact z61 h k) (fun a b=>by simp only[leB,Bool.or_eq_true,decide_eq_true_eq];exact z7P a b) (prs ks)
 exact this.imp (fun h=>by simpa [leB]using h)
theorem zk8{l:List (Nat × Nat)}(hp:l.Perm (prs ks))(hs:l.Pairwise leP):l=rkP ks :=
 List.Perm.eq_of_pairwise (fun _ _ _ _ h k=>zgD h k) hs (z6h ks) (hp.trans (z55 ks).symm)
theorem zeZ(ks:List Nat):(rk ks).length=ks.length:=by
 rw[rk,List.length_map,(z55 ks).length_eq,prs,List.length_zipIdx]
theorem zhr(ks:List Nat)(k:Nat):prs (ks++[k])=prs ks++[(k,ks.length)]:=by simp[prs,List.zipIdx_append]
theorem zj6{p:Nat × Nat}(h:p∈prs ks):p.2 < ks.length/\ks.getD p.2 0=p.1:=by
 obtain⟨k,i⟩:=p
 rw[prs,List.mem_zipIdx_iff_getElem?]at h
 simp only at h
 exact⟨(List.getElem?_eq_some_iff.1 h).1,by simp[List.getD,h]⟩
theorem zjs(ks:List Nat):(prs ks).map (·.2)=List.range ks.length:=by
 rw[prs]
 simp[List.range_eq_range']
theorem z70(ks:List Nat):(rk ks).Perm (List.range ks.length):=by
 rw[<- zjs]
 exact(z55 ks).map _
theorem zbj(ks:List Nat):(rk ks).Nodup:=(z70 ks).nodup_iff.2 List.nodup_range
theorem zlH(ks:List Nat):∀x∈rk ks,x < ks.length:=fun x hx=>List.mem_range.1 ((z70 ks).mem_iff.1 hx)
theorem zkl(ks:List Nat):rkP ks=(rk ks).map fun i=>(ks.getD i 0,i):=by
 rw[rk,List.map_map]
 conv=>lhs;rw[<- List.map_id (rkP ks)]
 apply List.map_congr_left
 intro p hp
 have:=zj6 ((z55 ks).mem_iff.1 hp)
 obtain⟨a,b⟩:=p
 simp only[Function.comp,id]
 simp only at this
 rw[this.2]
theorem zdM(ks:List Nat):(rk ks).Pairwise fun i j=>leP (ks.getD i 0,i) (ks.getD j 0,j):=by
 have h:=z6h ks
 rw[zkl,List.pairwise_map]at h
 exact h
def zjK(K:Int)(R:Bool)(i:Nat):Nat:=i*8388608+zP R*4194304+zP (K != 1)*1048576+zP (K==3)*524288
def zjB(R:Bool)(i:Nat):Nat:=i / 262144*8388608+6291456+i%262144*8+zP R*4
def z0X(f:Hd):Nat:=if f.X then zjB f.R f.I.toNat else zjK f.K f.R f.I.toNat
def zhs(f:Hd)(l:List Nat):Nat:=if okF f l then z0X f else 0
theorem zjZ(a b i:Nat)(h:b < 2^i)(ha:a%2^i=0):a ||| b=a+b:=by
 have e:a=2^i*(a / 2^i):=by
  have:=Nat.div_add_mod a (2^i)
  omega
 rw[e,<- Nat.two_pow_add_eq_or_of_lt h]
inductive Shp (f:Hd):Prop
 | cl (h:f.K=1) (hx:f.X=false) (hi:f.I.toNat < 2048)
 | cx (h:f.K=1) (hx:f.X=true) (hi:f.I.toNat < 536870912)
 | fd (h:f.K=2) (hx:f.X=false) (hr:f.R=false) (hi:f.I.toNat < 2048)
 | xl (h:f.K=3) (hx:f.X=false) (hr:f.R=false) (hi:f.I.toNat < 2048)
theorem zix(h:okF f l=true):f.K=1\/f.K=2\/f.K=3:=by
 simp only[okF,Bool.and_eq_true]at h
 exact z5f h.1
theorem zem(h:okF f l=true)(hI:0<=f.I):Shp f:=by
 have hk:=zix h
 obtain⟨K,I,X,R,B,E,S,D,V,A⟩:=f
 simp only at hk hI
 rcases hk with rfl | rfl | rfl
 ·obtain⟨i,_,e2,_,_,hx,hi⟩:=z1u (f:=⟨1,I,X,R,B,E,S,D,V,A⟩) (l:=l) (by simp[okC,h]) hI
  cases X with
  | false=>exact .cl rfl rfl (by rw[e2];exact hx rfl)
  | true=>exact .cx rfl rfl (by rw[e2];exact hi)
 ·rw[zba]at h
  simp only[zh7,Bool.and_eq_true,Bool.not_eq_true',decide_eq_true_eq]at h
  obtain⟨_,hi,rfl,rfl,_⟩:=h
  exact .fd rfl rfl rfl (by show I.toNat < 2048;omega)
 ·rw[zaT]at h
  simp only[zgG,Bool.and_eq_true,Bool.not_eq_true',decide_eq_true_eq]at h
  obtain⟨_,hi,rfl,rfl,_⟩:=h
  exact .xl rfl rfl rfl (by show I.toNat < 2048;omega)
def hiF(f:Hd):Nat:=if f.X then f.I.toNat / 262144 else f.I.toNat
def loF(f:Hd):Nat:=if f.X then 6291456+f.I.toNat%262144*8+zP f.R*4 else zP f.R*4194304+zP (f.K != 1)*1048576+zP (f.K==3)*524288
def tlF(f:Hd):List Nat:=if f.X then [1,1]++(zc (f.I.toNat%262144) 18++[zP f.R,0,0])else if f.K=2 then [0,0,1,0]else if f.K=3 then [0,0,1,1,0]else [zP f.R,0,0]
def hdF(f:Hd):List Nat:=[0]++(zc (hiF f) 11++tlF f)
theorem z36(f:Hd):z0X f=hiF f*8388608+loF f:=by
 unfold z0X hiF loF zjB zjK
 split<;>omega
theorem zaO:loF f < 8388608:=by
 have h1:=zQ f.R
 have h2:=zQ (f.K != 1)
 have h3:=zQ (f.K==3)
 unfold loF
 split<;>omega
theorem zkJ(h:Shp f):hiF f < 2048:=by
 unfold hiF
 cases h with
 | cl h hx hi=>rw[hx];exact hi
 | cx h hx hi=>rw[hx];show _ / _ < _;omega
 | fd h hx hr hi=>rw[hx];exact hi
 | xl h hx hr hi=>rw[hx];exact hi
theorem zhc (h:Shp f) :
    (f.X=true/\loF f=6291456+f.I.toNat%262144*8+zP f.R*4/\tlF f=[1,1]++(zc (f.I.toNat%262144) 18++[zP f.R,0,0])) \/
    (f.X=false/\f.K=1/\f.R=false/\loF f=0/\tlF f=[0,0,0])\/(f.X=false/\f.K=1/\f.R=true/\loF f=4194304/\tlF f=[1,0,0]) \/
    (f.X=false/\f.K=2/\f.R=false/\loF f=1048576/\tlF f=[0,0,1,0])\/(f.X=false/\f.K=3/\f.R=false/\loF f=1572864/\tlF f=[0,0,1,1,0]):=by
 unfold loF tlF
 cases h with
 | cl h hx hi=>cases hr:f.R<;>simp[h,hx,zP]
 | cx h hx hi=>simp[h,hx]
 | fd h hx hr hi=>simp[h,hx,hr,zP]
 | xl h hx hr hi=>simp[h,hx,hr,zP]
theorem Less.at{a b:List Nat}(d:Nat)(h1:d < a.length)(h2:d < b.length)(h3:a.take d=b.take d)(h4:a.getD d 0=0)(h5:b.getD d 0=1):Less a b:=⟨d,h1,h2,h3,h4,h5⟩
theorem zjx(hf:Shp f)(hg:Shp g)(h:loF f < loF g):Less (tlF f) (tlF g):=by
 have b1:=zQ f.R
 have b2:=zQ g.R
 rcases zhc hf with ⟨_,e1,e2⟩ | ⟨_,_,_,e1,e2⟩ | ⟨_,_,_,e1,e2⟩ | ⟨_,_,_,e1,e2⟩ | ⟨_,_,_,e1,e2⟩ <;>
 rcases zhc hg with ⟨_,g1,g2⟩ | ⟨_,_,_,g1,g2⟩ | ⟨_,_,_,g1,g2⟩ | ⟨_,_,_,g1,g2⟩ | ⟨_,_,_,g1,g2⟩ <;>
 rw[e1,g1]at h<;>first | (exfalso;omega) | rw[e2,g2]
 ·refine Less.pre ?_ _
  by_cases he:f.I.toNat%262144=g.I.toNat%262144
  ·rw[he]
   refine Less.pre (Less.at (a:=[zP f.R,0,0]) (b:=[zP g.R,0,0]) 0 (by simp) (by simp) rfl ?_ ?_) _
   ·show zP f.R=0;omega
   ·show zP g.R=1;omega
  ·exact(z6G 18 _ _ (by omega) (by omega)).post _ _
 all_goals first
  | exact Less.at 0 (by simp) (by simp) rfl rfl rfl
  | exact Less.at 1 (by simp) (by simp) rfl rfl rfl
  | exact Less.at 2 (by simp) (by simp) rfl rfl rfl
  | exact Less.at 3 (by simp) (by simp) rfl rfl rfl
theorem zdD(hf:Shp f)(hg:Shp g)(h:z0X f < z0X g):Less (hdF f) (hdF g):=by
 have l1:=zaO (f:=f)
 have l2:=zaO (f:=g)
 have m2:=zkJ hg
 rw[z36,z36]at h
 unfold hdF
 refine Less.pre ?_ _
 by_cases he:hiF f=hiF g
 ·rw[he]at h ⊢
  exact(zjx hf hg (by omega)).pre _
 ·exact(z6G 11 _ _ (by omega) (by omega)).post _ _
theorem zkx(h:Shp f):f.X=true->f.K=1:=fun hx=>by
 cases h with
 | cl h _ _=>exact h
 | cx h _ _=>exact h
 | fd _ h _ _=>rw[h]at hx;cases hx
 | xl _ h _ _=>rw[h]at hx;cases hx
theorem zhe(hf:Shp f)(hg:Shp g)(h:z0X f=z0X g):f.K=g.K/\f.I.toNat=g.I.toNat/\f.X=g.X/\f.R=g.R:=by
 have l1:=zaO (f:=f)
 have l2:=zaO (f:=g)
 have b1:=zQ f.R
 have b2:=zQ g.R
 rw[z36,z36]at h
 have hh:hiF f=hiF g:=by omega
 have hl:loF f=loF g:=by omega
 clear h
 have k1:=zkx hf
 have k2:=zkx hg
 rcases zhc hf with ⟨x1,e1,e2⟩ | ⟨x1,y1,z1,e1,e2⟩ | ⟨x1,y1,z1,e1,e2⟩ | ⟨x1,y1,z1,e1,e2⟩ | ⟨x1,y1,z1,e1,e2⟩ <;>
 rcases zhc hg with ⟨x2,g1,g2⟩ | ⟨x2,y2,z2,g1,g2⟩ | ⟨x2,y2,z2,g1,g2⟩ | ⟨x2,y2,z2,g1,g2⟩ | ⟨x2,y2,z2,g1,g2⟩ <;>
 rw[e1,g1]at hl<;>first | (exfalso;omega) | skip
 ·simp only[hiF,x1,x2,if_true]at hh
  refine⟨by rw[k1 x1,k2 x2],by omega,by rw[x1,x2],?_⟩
  have:zP f.R=zP g.R:=by omega
  exact zgm this
 all_goals
  simp only[hiF,x1,x2,Bool.false_eq_true,if_false]at hh
  exact⟨by rw[y1,y2],hh,by rw[x1,x2],by rw[z1,z2]⟩
theorem zep(h:okF f l=true)(hI:0<=f.I):∃T X,wF f l=zh (hdF f++T)++X/\z2J f l=(zh (hdF f)).length:=by
 rcases z3Y h with hk | hk | hk
 ·have ho:okC f l=true:=by simp[okC,hk,h]
  have n2:¬f.K=2:=by omega
  have n3:¬f.K=3:=by omega
  have e:hdF f=zJ f.X f.R f.I.toNat:=by
   unfold hdF hiF tlF zJ
   simp only[n2,n3,if_false]
   cases f.X<;>rfl
  refine⟨zc l.length 4++ze l++z1R 1 (z1q f.X f.R f.I.toNat l),ones 10,?_,?_⟩
  ·rw[wF,if_neg n2,if_neg n3,z0M,if_pos ho,zT,if_pos ho,e,zS]
   conv=>lhs;rw[z1q]
   simp only[List.append_assoc]
   rw[z1q]
  ·rw[z2J,if_neg n2,if_neg n3,z1S,if_pos ho,e]
 ·have ho:okD f l=true:=by simp[okD,hk,h]
  obtain⟨i,e1,e2,_,hi⟩:=z1Q ho hI
  have hx:f.X=false:=by rw[e1]
  have e:hdF f=headD f.I.toNat:=by
   unfold hdF hiF tlF headD
   rw[hx,if_pos hk]
   rfl
  refine⟨[zP f.B,zP f.E]++(zc (z0s 2 (l.length:Int)) 4++ze l),z4I l.length (zh (bdC f l)) (bdC f l)++ones 10,?_,?_⟩
  ·rw[wF,if_pos hk,wdC,if_pos ho,rwD,List.append_assoc,e]
   congr 2
   rw[bdC,if_pos ho,z0F]
  ·rw[z2J,if_pos hk,z1O,if_pos ho,e]
 ·have ho:okX f l=true:=by simp[okX,hk,h]
  obtain⟨i,e1,e2,_,_,hi⟩:=z8d ho hI
  have hx:f.X=false:=by rw[e1]
  have n2:¬f.K=2:=by omega
  have e:hdF f=zi f.I.toNat:=by
   unfold hdF hiF tlF zi
   rw[hx,if_neg n2,if_pos hk]
   rfl
  refine⟨[],zy++(zv 8 false 1 (bxC f l)++(z0u++ones 10)),?_,?_⟩
  ·rw[wF,if_neg n2,if_pos hk,wxC,if_pos ho,rwX,e,List.append_nil]
   simp only[List.append_assoc]
  ·rw[z2J,if_neg n2,if_pos hk,z1y,if_pos ho,e]
theorem zby {m:List Nat} (hf:okF f l=true) (hg:okF g m=true) (hI:0<=f.I) (hJ:0<=g.I) :
    (z0X f=z0X g/\z2J f l=z2J g m/\∀k,k < z2J f l->(wF f l).getD k 0=(wF g m).getD k 0) \/
    ∃d,d < z2J f l/\d < z2J g m/\(∀k,k < d->(wF f l).getD k 0=(wF g m).getD k 0) /\
     ((z0X f < z0X g/\(wF f l).getD d 0=0/\(wF g m).getD d 0=1)\/(z0X g < z0X f/\(wF f l).getD d 0=1/\(wF g m).getD d 0=0)):=by
 obtain⟨T,X,y1,y2⟩:=zep hf hI
 obtain⟨T',X',z1,z2⟩:=zep hg hJ
 have sf:=zem hf hI
 have sg:=zem hg hJ
 rw[y1,y2,z1,z2]
 rcases Nat.lt_trichotomy (z0X f) (z0X g)with h | h | h
 ·obtain⟨d,h1,h2,h3,h4,h5⟩:=z3Q (T:=T) (T':=T') (X:=X) (X':=X') (zdD sf sg h)
  exact .inr ⟨d,h1,h2,h3,.inl ⟨h,h4,h5⟩⟩
 ·have e:hdF f=hdF g:=by
   obtain⟨k1,k2,k3,k4⟩:=zhe sf sg h
   unfold hdF hiF tlF
   rw[k1,k2,k3,k4]
  rw[e]
  refine .inl ⟨h,rfl,fun k hk => ?_⟩
  obtain⟨Y,hY⟩:=z1g (hdF g) T
  obtain⟨Y',hY'⟩:=z1g (hdF g) T'
  rw[hY,hY',List.append_assoc,List.append_assoc]
  simp[List.getD,List.getElem?_append_left hk]
 ·obtain⟨d,h1,h2,h3,h4,h5⟩:=z3Q (T:=T') (T':=T) (X:=X') (X':=X) (zdD sg sf h)
  exact .inr ⟨d,h2,h1,fun k hk=>(h3 k hk).symm,.inr ⟨h,h5,h4⟩⟩
theorem z6v(b:Bool)(w:World):Calls Tryz.prog 103 #[.bool b] w fun e w'=>e = .returned (.int .u64 (zP b:Nat))/\w'=w:=by
 cases b
 all_goals go_enter Tryz.func103,Tryz.ntmps103
 all_goals go_wp2
 all_goals go_ret
 all_goals exact⟨rfl,rfl⟩
theorem ziw(a b i:Nat)(ha:a < 9223372036854775808)(hb:b < 2^i)(hi:2^i<=9223372036854775808)(h0:a%2^i=0):bits BinOp.or IntKind.u64 (a:Int) (b:Int)=((a+b:Nat):Int):=by
 rw[bits_or_u64_nat a b (by omega) (by omega),zjZ a b i hb h0]
theorem zgr (b:Bool):IntKind.u64.wrap ((zP b:Int)*4194304)=((zP b*4194304:Nat):Int)/\IntKind.u64.wrap ((zP b:Int)*1048576)=((zP b*1048576:Nat):Int) /\
    IntKind.u64.wrap ((zP b:Int)*524288)=((zP b*524288:Nat):Int)/\IntKind.u64.wrap ((zP b:Int)*4)=((zP b*4:Nat):Int):=by
 cases b<;>decide +kernel
theorem orS (K:Int) (R:Bool) (i:Nat) (hi:i < 2048) :
    bits BinOp.or IntKind.u64 (bits BinOp.or IntKind.u64 (bits BinOp.or IntKind.u64 ((i:Int)*8388608) (IntKind.u64.wrap ((zP R:Int)*4194304))) (IntKind.u64.wrap ((zP (K != 1):Int)*1048576))) (IntKind.u64.wrap ((zP (K==3):Int)*524288))=((zjK K R i:Nat):Int):=by
 have h1:=zQ R
 have h2:=zQ (K != 1)
 have h3:=zQ (K==3)
 rw[(zgr R).1,(zgr (K != 1)).2.1,(zgr (K==3)).2.2.1]
 unfold zjK
 generalize zP R=r at *
 generalize zP (K != 1)=n at *
 generalize zP (K==3)=x at *
 have e0:(i:Int)*8388608=((i*8388608:Nat):Int):=by omega
 rw[e0,ziw (i*8388608) (r*4194304) 23 (by omega) (by omega) (by omega) (by omega),ziw (i*8388608+r*4194304) (n*1048576) 22 (by omega) (by omega) (by omega) (by omega),
  ziw (i*8388608+r*4194304+n*1048576) (x*524288) 20 (by omega) (by omega) (by omega) (by omega)]
theorem orX (R:Bool) (i:Nat) (hi:i < 536870912) :
    bits BinOp.or IntKind.u64 (bits BinOp.or IntKind.u64 (bits BinOp.or IntKind.u64 (bits BinOp.or IntKind.u64 ((i:Int) / 262144*8388608) 4194304) 2097152) ((i:Int)%262144*8)) (IntKind.u64.wrap ((zP R:Int)*4))=((zjB R i:Nat):Int):=by
 have h1:=zQ R
 rw[(zgr R).2.2.2]
 unfold zjB
 generalize zP R=r at *
 obtain⟨q,hq⟩:∃q:Nat,q=i / 262144:=⟨_,rfl⟩
 obtain⟨m,hm⟩:∃m:Nat,m=i%262144:=⟨_,rfl⟩
 obtain⟨c,hc⟩:∃c:Nat,c=4194304:=⟨_,rfl⟩
 obtain⟨d,hd⟩:∃d:Nat,d=2097152:=⟨_,rfl⟩
 have e0:(i:Int) / 262144*8388608=((q*8388608:Nat):Int):=by omega
 have e1:(i:Int)%262144*8=((m*8:Nat):Int):=by omega
 have e2:(4194304:Int)=(c:Int):=by omega
 have e3:(2097152:Int)=(d:Int):=by omega
 have o1:=ziw (q*8388608) c 23 (by omega) (by omega) (by omega) (by omega)
 have o2:=ziw (q*8388608+c) d 22 (by omega) (by omega) (by omega) (by omega)
 have o3:=ziw (q*8388608+c+d) (m*8) 21 (by omega) (by omega) (by omega) (by omega)
 have o4:=ziw (q*8388608+c+d+m*8) (r*4) 3 (by omega) (by omega) (by omega) (by omega)
 rw[e0,e1,e2,e3,o1,o2,o3,o4,<- hq,<- hm]
 have:q*8388608+c+d+m*8+r*4=q*8388608+6291456+m*8+r*4:=by omega
 rw[this]
theorem zeq (K:Int) (i:Nat) (X R B E S:Bool) (D V A:Int) (v:Value) (w:World) (hi:i < 2048) :
    Calls Tryz.prog 72 #[.agg #[.int .i64 K,.int .u32 (i:Nat),.bool X,.bool R,.bool B,.bool E,.bool S,.int .u8 D,.int .u8 V,.int .u32 A,v]] w fun e w'=>e = .returned (.int .u64 (zjK K R i:Nat))/\Nb w w':=by
 have HO:=zH (orS K R i hi)
 go_enter Tryz.func72,Tryz.ntmps72
 go_wp2_with fail
 go_quiet ((go_at_call 103;exact Calls.quiet_of_same (z6v _ _)))
 go_wp2
 go_ret
 exact⟨zbw HO.out,(Nb.rfl.al _).tr (Nb.drewN _ _)⟩
theorem zg3 (K:Int) (i:Nat) (X R B E S:Bool) (D V A:Int) (v:Value) (w:World) (hi:i < 536870912) :
    Calls Tryz.prog 71 #[.agg #[.int .i64 K,.int .u32 (i:Nat),.bool X,.bool R,.bool B,.bool E,.bool S,.int .u8 D,.int .u8 V,.int .u32 A,v]] w fun e w'=>e = .returned (.int .u64 (zjB R i:Nat))/\Nb w w':=by
 have HO:=zH (orX R i hi)
 go_enter Tryz.func71,Tryz.ntmps71
 go_wp2_with fail
 go_quiet ((go_at_call 103;exact Calls.quiet_of_same (z6v _ _)))
 go_wp2
 go_ret
 exact⟨zbw HO.out,(Nb.rfl.al _).tr (Nb.drewN _ _)⟩
def zl8(f:Hd)(l:List Nat)(e:Ending):Prop:=e = .returned (.tuple #[.int .u64 (zhs f l:Nat),.int .i64 (zt f l:Nat)])
theorem z9F (f:Hd) (a:Option Addr) (cap:Nat) (l:List Nat) (w:World) (h:Bs w a cap l) (hI:0<=f.I) (hl:zV w) :
    Calls Tryz.prog 39 #[.agg (f.cs (.slice a l.length cap))] w fun e w'=>zl8 f l e/\Nb w w':=by
 have hL:=h.len
 have F0:=zH (fun w' (n:Nb w w')=>z0J f a cap l w' (h.below n) (hl.below n))
 unfold zl8
 cases hok:okF f l with
 | false =>
   rw[show zt f l=2 by simp[zt,hok]]at F0 ⊢
   rw[show zhs f l=0 by simp[zhs,hok]]
   obtain⟨K,I,X,R,B,E,S,D,V,A⟩:=f
   simp only[Hd.cs]at F0 ⊢
   have Q0:=zH (Blk.new w #[.int .i64 K,.int .u32 I,.bool X,.bool R,.bool B,.bool E,.bool S,.int .u8 D,.int .u8 V,.int .u32 A,.slice a l.length cap] 37)
   clear h hl hok hI
   go_enter Tryz.func39,Tryz.ntmps39
   go_wp2_with fail
   refine(F0.out _ (Nb.rfl.al _)).mono ?_
   rintro e w1 ⟨rfl,n1⟩
   go_wp2
   go_ret2
   exact⟨rfl,(Nb.rfl.al _).tr n1⟩
 | true =>
   rw[show zt f l=0 by simp[zt,hok]]at F0 ⊢
   have hs:=zem hok hI
   rw[show zhs f l=z0X f by simp[zhs,hok]]
   obtain⟨K,I,X,R,B,E,S,D,V,A⟩:=f
   obtain⟨i,rfl⟩:=Int.eq_ofNat_of_zero_le hI
   simp only[Hd.cs]at F0 ⊢
   have Q0:=zH (Blk.new w #[.int .i64 K,.int .u32 (i:Nat),.bool X,.bool R,.bool B,.bool E,.bool S,.int .u8 D,.int .u8 V,.int .u32 A,.slice a l.length cap] 37)
   cases X with
   | false =>
     have hi:i < 2048:=by
      cases hs with
      | cl _ _ hi=>simpa using hi
      | cx _ hx _=>simp at hx
      | fd _ _ _ hi=>simpa using hi
      | xl _ _ _ hi=>simpa using hi
     have HS:=zH (fun w=>zeq K i false R B E S D V A (.slice a l.length cap) w hi)
     rw[show z0X ⟨K,(i:Nat),false,R,B,E,S,D,V,A⟩=zjK K R i by simp[z0X]]
     clear h hl hok hI hs hi
     go_enter Tryz.func39,Tryz.ntmps39
     go_wp2_with fail
     refine(F0.out _ (Nb.rfl.al _)).mono ?_
     rintro e w1 ⟨rfl,n1⟩
     have N1:=zH ((Nb.rfl.al _).tr n1)
     obtain⟨c0,c1,c2,c3,c4,c5,c6,c7,c8,c9,c10⟩:=(Q0.out.nb n1).c11
     clear n1
     go_wp2_with fail
     refine(HS.out _).mono ?_
     rintro e w2 ⟨rfl,n2⟩
     go_wp2
     go_ret2
     exact⟨rfl,N1.out.tr n2⟩
   | true =>
     have hi:i < 536870912:=by
      cases hs with
      | cx _ _ hi=>simpa using hi
      | cl _ hx _=>simp at hx
      | fd _ hx _ _=>simp at hx
      | xl _ hx _ _=>simp at hx
     have HS:=zH (fun w=>zg3 K i true R B E S D V A (.slice a l.length cap) w hi)
     rw[show z0X ⟨K,(i:Nat),true,R,B,E,S,D,V,A⟩=zjB R i by simp[z0X]]
     clear h hl hok hI hs hi
     go_enter Tryz.func39,Tryz.ntmps39
     go_wp2_with fail
     refine(F0.out _ (Nb.rfl.al _)).mono ?_
     rintro e w1 ⟨rfl,n1⟩
     have N1:=zH ((Nb.rfl.al _).tr n1)
     obtain⟨c0,c1,c2,c3,c4,c5,c6,c7,c8,c9,c10⟩:=(Q0.out.nb n1).c11
     clear n1
     go_wp2_with fail
     refine(HS.out _).mono ?_
     rintro e w2 ⟨rfl,n2⟩
     go_wp2
     go_ret2
     exact⟨rfl,N1.out.tr n2⟩
def zcx(m n:Nat):Int:=if m < n then -1 else if n < m then 1 else 0
def zjD(f g:Hd)(l m:List Nat):Int:=if okF f l&&okF g m then zcx (z0X f) (z0X g)else 0
def zl6(f g:Hd)(l m:List Nat):Nat:=if okF f l&&okF g m then 0 else 2
def zl5(f g:Hd)(l m:List Nat)(e:Ending):Prop:=e = .returned (.tuple #[.int .i64 (zjD f g l m),.int .i64 (zl6 f g l m:Nat)])
theorem z9S(m:Nat)(w:World):Calls Tryz.prog 73 #[.int .u64 (m:Nat)] w fun e w'=>e = .returned (.bool false)/\w'=w:=by
 have h:((m:Int) != (m:Int))=false:=by simp
 go_enter Tryz.func73,Tryz.ntmps73
 go_wp2
 go_ret
 exact⟨by simp,rfl⟩
theorem zjw(m n:Nat)(w:World):Calls Tryz.prog 40 #[.int .u64 (m:Nat),.int .u64 (n:Nat)] w fun e w'=>e = .returned (.int .i64 (zcx m n))/\w'=w:=by
 unfold zcx
 by_cases h1:m < n
 ·rw[if_pos h1]
  have d1:decide (m < n)=true:=decide_eq_true h1
  go_enter Tryz.func40,Tryz.ntmps40
  go_wp2_with (go_at_call 73;refine(z9S _ _).mono ?_;rintro e w1 ⟨rfl,rfl⟩)
  go_ret
  exact⟨rfl,rfl⟩
 rw[if_neg h1]
 have d1:decide (m < n)=false:=decide_eq_false h1
 by_cases h2:n < m
 ·rw[if_pos h2]
  have d2:decide (n < m)=true:=decide_eq_true h2
  clear h1
  go_enter Tryz.func40,Tryz.ntmps40
  go_wp2_with (go_at_call 73;refine(z9S _ _).mono ?_;rintro e w1 ⟨rfl,rfl⟩)
  go_ret
  exact⟨rfl,rfl⟩
 rw[if_neg h2]
 have d2:decide (n < m)=false:=decide_eq_false h2
 clear h1 h2
 go_enter Tryz.func40,Tryz.ntmps40
 go_wp2_with (go_at_call 73;refine(z9S _ _).mono ?_;rintro e w1 ⟨rfl,rfl⟩)
 go_ret
 exact⟨rfl,rfl⟩
theorem z5c (f g:Hd) (a a':Option Addr) (cap cap':Nat) (l m:List Nat) (w:World) (h:Bs w a cap l) (h':Bs w a' cap' m) (hI:0<=f.I) (hJ:0<=g.I) (hl:zV w) :
    Calls Tryz.prog 18 #[.agg (f.cs (.slice a l.length cap)),.agg (g.cs (.slice a' m.length cap'))] w fun e w'=>zl5 f g l m e/\Nb w w':=by
 have hL:=h.len
 have hM:=h'.len
 have F1:=zH (fun w' (n:Nb w w')=>z9F f a cap l w' (h.below n) hI (hl.below n))
 have F2:=zH (fun w' (n:Nb w w')=>z9F g a' cap' m w' (h'.below n) hJ (hl.below n))
 unfold zl5 zjD zl6
 unfold zl8 zhs zt at F1 F2
 clear h h' hl
 cases hf:okF f l with
 | false =>
   rw[hf]at F1
   simp only[Bool.false_eq_true,if_false,Bool.false_and]at F1 ⊢
   clear F2 hf hI hJ
   obtain⟨K,I,X,R,B,E,S,D,V,A⟩:=f
   obtain⟨K',I',X',R',B',E',S',D',V',A'⟩:=g
   simp only[Hd.cs]at F1 ⊢
   go_enter Tryz.func18,Tryz.ntmps18
   go_wp2_with fail
   refine(F1.out _ ((Nb.rfl.al _).al _)).mono ?_
   rintro e w1 ⟨rfl,n1⟩
   go_wp2
   go_ret2
   exact⟨rfl,((Nb.rfl.al _).al _).tr n1⟩
 | true =>
   rw[hf]at F1
   simp only[if_true,Bool.true_and]at F1 ⊢
   generalize z0X f=kf at *
   cases hg:okF g m with
   | false =>
     rw[hg]at F2
     simp only[Bool.false_eq_true,if_false]at F2 ⊢
     clear hf hg hI hJ
     obtain⟨K,I,X,R,B,E,S,D,V,A⟩:=f
     obtain⟨K',I',X',R',B',E',S',D',V',A'⟩:=g
     have Q:=zH (Blk.new (w.alloc (.cells #[.int .i64 K,.int .u32 I,.bool X,.bool R,.bool B,.bool E,.bool S,.int .u8 D,.int .u8 V,.int .u32 A,.slice a l.length cap] 37)) #[.int .i64 K',.int .u32 I',.bool X',.bool R',.bool B',.bool E',.bool S',.int .u8 D',.int .u8 V',.int .u32 A',.slice a' m.length cap'] 37)
     simp only[Hd.cs]at F1 F2 ⊢
     go_enter Tryz.func18,Tryz.ntmps18
     go_wp2_with fail
     refine(F1.out _ ((Nb.rfl.al _).al _)).mono ?_
     rintro e w1 ⟨rfl,n1⟩
     have q:=Q.out.nb n1
     rw[World.size_alloc]at q
     obtain⟨c0,c1,c2,c3,c4,c5,c6,c7,c8,c9,c10⟩:=q.c11
     have N1:=zH (((Nb.rfl.al _).al _).tr n1)
     clear n1 q
     go_wp2_with fail
     refine(F2.out _ N1.out).mono ?_
     rintro e w2 ⟨rfl,n2⟩
     go_wp2
     go_ret2
     exact⟨rfl,N1.out.tr n2⟩
   | true =>
     rw[hg]at F2
     simp only[if_true]at F2 ⊢
     generalize z0X g=kg at *
     clear hf hg hI hJ
     obtain⟨K,I,X,R,B,E,S,D,V,A⟩:=f
     obtain⟨K',I',X',R',B',E',S',D',V',A'⟩:=g
     have Q:=zH (Blk.new (w.alloc (.cells #[.int .i64 K,.int .u32 I,.bool X,.bool R,.bool B,.bool E,.bool S,.int .u8 D,.int .u8 V,.int .u32 A,.slice a l.length cap] 37)) #[.int .i64 K',.int .u32 I',.bool X',.bool R',.bool B',.bool E',.bool S',.int .u8 D',.int .u8 V',.int .u32 A',.slice a' m.length cap'] 37)
     simp only[Hd.cs]at F1 F2 ⊢
     go_enter Tryz.func18,Tryz.ntmps18
     go_wp2_with fail
     refine(F1.out _ ((Nb.rfl.al _).al _)).mono ?_
     rintro e w1 ⟨rfl,n1⟩
     have q:=Q.out.nb n1
     rw[World.size_alloc]at q
     obtain⟨c0,c1,c2,c3,c4,c5,c6,c7,c8,c9,c10⟩:=q.c11
     have N1:=zH (((Nb.rfl.al _).al _).tr n1)
     clear n1 q
     go_wp2_with fail
     refine(F2.out _ N1.out).mono ?_
     rintro e w2 ⟨rfl,n2⟩
     have N2:=zH (N1.out.tr n2)
     clear n2 c0 c1 c2 c3 c4 c5 c6 c7 c8 c9 c10
     go_wp2_with fail
     refine(zjw kf kg _).mono ?_
     rintro e w3 ⟨rfl,rfl⟩
     go_wp2
     go_ret2
     exact⟨rfl,N2.out⟩
open Go.RowKit Go.ChangeShapes Go.WideShapes
abbrev dF:Hd × List Nat:=(⟨0,0,false,false,false,false,false,0,0,0⟩,[])
theorem zln(h1:(Lit.int .u32 f.I).wf=true)(h2:(Lit.int .u8 f.D).wf=true)(h3:(Lit.int .u8 f.V).wf=true)(h4:(Lit.int .u32 f.A).wf=true):WdX f:=by
 simp[Lit.wf,IntKind.min,IntKind.max,IntKind.signed,IntKind.bits]at h1 h2 h3 h4
 unfold WdX
 omega
theorem zks{α:Type}{cs:List α}(h:cs.length=11):∃c0 c1 c2 c3 c4 c5 c6 c7 c8 c9 c10,cs=[c0,c1,c2,c3,c4,c5,c6,c7,c8,c9,c10]:=by
 match cs,h with
 | [c0,c1,c2,c3,c4,c5,c6,c7,c8,c9,c10],_=>exact⟨c0,c1,c2,c3,c4,c5,c6,c7,c8,c9,c10,rfl⟩
theorem z6o {enc:TypeId × Value->H} {cs:List Value} {y:DataW H × List MemPlace} (hn:cs.length=11)
    (h:DataW.trod enc Tryz.prog w 0 (fun _=>true) true fuel 37 cs=some y) :
    ∃(f:Hd) (l:List Nat) (a:Option Addr) (cap:Nat),cs=(f.cs (.slice a l.length cap)).toList/\WdX f/\(Lit.int .i64 f.K).wf=true/\Bs w a cap l/\(a=none->cap=0):=by
 obtain⟨c0,c1,c2,c3,c4,c5,c6,c7,c8,c9,c10,rfl⟩:=zks hn
 obtain⟨m0,y0,g0⟩:=z15 Tryz.underlying37 h 0 _ rfl
 have t0:DataW.trod enc Tryz.prog w 0 (fun _=>true) true m0 3 (([c0,c1,c2,c3,c4,c5,c6,c7,c8,c9,c10].drop 0).take (Tryz.prog.cellsOf 3))=some y0:=g0
 rw[show Tryz.prog.cellsOf 3=1 from by kernel_rfl]at t0
 have u0:DataW.trod enc Tryz.prog w 0 (fun _=>true) true m0 3 [c0]=some y0:=t0
 obtain⟨m1,y1,g1⟩:=z15 Tryz.underlying37 h 1 _ rfl
 have t1:DataW.trod enc Tryz.prog w 0 (fun _=>true) true m1 34 (([c0,c1,c2,c3,c4,c5,c6,c7,c8,c9,c10].drop 1).take (Tryz.prog.cellsOf 34))=some y1:=g1
 rw[show Tryz.prog.cellsOf 34=1 from by kernel_rfl]at t1
 have u1:DataW.trod enc Tryz.prog w 0 (fun _=>true) true m1 34 [c1]=some y1:=t1
 obtain⟨m2,y2,g2⟩:=z15 Tryz.underlying37 h 2 _ rfl
 have t2:DataW.trod enc Tryz.prog w 0 (fun _=>true) true m2 4 (([c0,c1,c2,c3,c4,c5,c6,c7,c8,c9,c10].drop 2).take (Tryz.prog.cellsOf 4))=some y2:=g2
 rw[show Tryz.prog.cellsOf 4=1 from by kernel_rfl]at t2
 have u2:DataW.trod enc Tryz.prog w 0 (fun _=>true) true m2 4 [c2]=some y2:=t2
 obtain⟨m3,y3,g3⟩:=z15 Tryz.underlying37 h 3 _ rfl
 have t3:DataW.trod enc Tryz.prog w 0 (fun _=>true) true m3 4 (([c0,c1,c2,c3,c4,c5,c6,c7,c8,c9,c10].drop 3).take (Tryz.prog.cellsOf 4))=some y3:=g3
 rw[show Tryz.prog.cellsOf 4=1 from by kernel_rfl]at t3
 have u3:DataW.trod enc Tryz.prog w 0 (fun _=>true) true m3 4 [c3]=some y3:=t3
 obtain⟨m4,y4,g4⟩:=z15 Tryz.underlying37 h 4 _ rfl
 have t4:DataW.trod enc Tryz.prog w 0 (fun _=>true) true m4 4 (([c0,c1,c2,c3,c4,c5,c6,c7,c8,c9,c10].drop 4).take (Tryz.prog.cellsOf 4))=some y4:=g4
 rw[show Tryz.prog.cellsOf 4=1 from by kernel_rfl]at t4
 have u4:DataW.trod enc Tryz.prog w 0 (fun _=>true) true m4 4 [c4]=some y4:=t4
 obtain⟨m5,y5,g5⟩:=z15 Tryz.underlying37 h 5 _ rfl
 have t5:DataW.trod enc Tryz.prog w 0 (fun _=>true) true m5 4 (([c0,c1,c2,c3,c4,c5,c6,c7,c8,c9,c10].drop 5).take (Tryz.prog.cellsOf 4))=some y5:=g5
 rw[show Tryz.prog.cellsOf 4=1 from by kernel_rfl]at t5
 have u5:DataW.trod enc Tryz.prog w 0 (fun _=>true) true m5 4 [c5]=some y5:=t5
 obtain⟨m6,y6,g6⟩:=z15 Tryz.underlying37 h 6 _ rfl
 have t6:DataW.trod enc Tryz.prog w 0 (fun _=>true) true m6 4 (([c0,c1,c2,c3,c4,c5,c6,c7,c8,c9,c10].drop 6).take (Tryz.prog.cellsOf 4))=some y6:=g6
 rw[show Tryz.prog.cellsOf 4=1 from by kernel_rfl]at t6
 have u6:DataW.trod enc Tryz.prog w 0 (fun _=>true) true m6 4 [c6]=some y6:=t6
 obtain⟨m7,y7,g7⟩:=z15 Tryz.underlying37 h 7 _ rfl
 have t7:DataW.trod enc Tryz.prog w 0 (fun _=>true) true m7 5 (([c0,c1,c2,c3,c4,c5,c6,c7,c8,c9,c10].drop 7).take (Tryz.prog.cellsOf 5))=some y7:=g7
 rw[show Tryz.prog.cellsOf 5=1 from by kernel_rfl]at t7
 have u7:DataW.trod enc Tryz.prog w 0 (fun _=>true) true m7 5 [c7]=some y7:=t7
 obtain⟨m8,y8,g8⟩:=z15 Tryz.underlying37 h 8 _ rfl
 have t8:DataW.trod enc Tryz.prog w 0 (fun _=>true) true m8 5 (([c0,c1,c2,c3,c4,c5,c6,c7,c8,c9,c10].drop 8).take (Tryz.prog.cellsOf 5))=some y8:=g8
 rw[show Tryz.prog.cellsOf 5=1 from by kernel_rfl]at t8
 have u8:DataW.trod enc Tryz.prog w 0 (fun _=>true) true m8 5 [c8]=some y8:=t8
 obtain⟨m9,y9,g9⟩:=z15 Tryz.underlying37 h 9 _ rfl
 have t9:DataW.trod enc Tryz.prog w 0 (fun _=>true) true m9 34 (([c0,c1,c2,c3,c4,c5,c6,c7,c8,c9,c10].drop 9).take (Tryz.prog.cellsOf 34))=some y9:=g9
 rw[show Tryz.prog.cellsOf 34=1 from by kernel_rfl]at t9
 have u9:DataW.trod enc Tryz.prog w 0 (fun _=>true) true m9 34 [c9]=some y9:=t9
 obtain⟨m10,y10,g10⟩:=z15 Tryz.underlying37 h 10 _ rfl
 have t10:DataW.trod enc Tryz.prog w 0 (fun _=>true) true m10 35 (([c0,c1,c2,c3,c4,c5,c6,c7,c8,c9,c10].drop 10).take (Tryz.prog.cellsOf 35))=some y10:=g10
 rw[show Tryz.prog.cellsOf 35=1 from by kernel_rfl]at t10
 have u10:DataW.trod enc Tryz.prog w 0 (fun _=>true) true m10 35 [c10]=some y10:=t10
 obtain⟨K,e0,x0,w0⟩:=DataW.trod_int Tryz.underlying3 u0
 obtain rfl:c0 = .int .i64 K:=by simpa using e0
 obtain⟨I,e1,x1,w1⟩:=DataW.trod_int Tryz.underlying34 u1
 obtain rfl:c1 = .int .u32 I:=by simpa using e1
 obtain⟨X,e2,x2⟩:=DataW.trod_bool Tryz.underlying4 u2
 obtain rfl:c2 = .bool X:=by simpa using e2
 obtain⟨R,e3,x3⟩:=DataW.trod_bool Tryz.underlying4 u3
 obtain rfl:c3 = .bool R:=by simpa using e3
 obtain⟨B,e4,x4⟩:=DataW.trod_bool Tryz.underlying4 u4
 obtain rfl:c4 = .bool B:=by simpa using e4
 obtain⟨E,e5,x5⟩:=DataW.trod_bool Tryz.underlying4 u5
 obtain rfl:c5 = .bool E:=by simpa using e5
 obtain⟨S,e6,x6⟩:=DataW.trod_bool Tryz.underlying4 u6
 obtain rfl:c6 = .bool S:=by simpa using e6
 obtain⟨D,e7,x7,w7⟩:=DataW.trod_int Tryz.underlying5 u7
 obtain rfl:c7 = .int .u8 D:=by simpa using e7
 obtain⟨V,e8,x8,w8⟩:=DataW.trod_int Tryz.underlying5 u8
 obtain rfl:c8 = .int .u8 V:=by simpa using e8
 obtain⟨A,e9,x9,w9⟩:=DataW.trod_int Tryz.underlying34 u9
 obtain rfl:c9 = .int .u32 A:=by simpa using e9
 obtain⟨a,cap,l,e10,hb,hnn⟩:=zbO u10
 subst e10
 exact⟨⟨K,I,X,R,B,E,S,D,V,A⟩,l,a,cap,rfl,zln w1 w7 w8 w9,w0,hb,hnn⟩
structure z28(w:World)(a:Option Addr)(cap:Nat)(fs:List (Hd × List Nat)):Prop where
 hcap:fs.length<=cap
 hmax:cap<=maxLen
 hcells:0 < fs.length->∃b o,a=some ⟨b,o,none⟩/\∀j,j < fs.length->∃a' c',(∀i u,((fs.getD j dF).1.cs (.slice a' (fs.getD j dF).2.length c')).toList[i]? = some u->w.cell? ⟨b,o+j*11+i,none⟩=some u)/\WdX (fs.getD j dF).1/\(Lit.int .i64 (fs.getD j dF).1.K).wf=true/\Bs w a' c' (fs.getD j dF).2/\(a'=none->c'=0)
theorem z28.nil(w:World):z28 w none 0 []:=⟨Nat.le_refl _,by simp[maxLen],by simp⟩
theorem z28.len{a:Option Addr}{fs:List (Hd × List Nat)}(h:z28 w a cap fs):fs.length<=9223372036854775807:=by
 have h1:=h.hcap
 have h2:=h.hmax
 unfold maxLen at h2
 omega
theorem z28.below{w w':World}{a:Option Addr}{cap:Nat}{fs:List (Hd × List Nat)}(h:z28 w a cap fs)(hb:Nb w w'):z28 w' a cap fs:=by
 refine⟨h.hcap,h.hmax,fun hl => ?_⟩
 obtain⟨b,o,ha,hc⟩:=h.hcells hl
 refine⟨b,o,ha,fun j hj => ?_⟩
 obtain⟨a',c',h1,h2,h3,h4,h5⟩:=hc j hj
 exact⟨a',c',fun i u hu=>by
  have:=h1 i u hu
  rw[hb.cell (p:=⟨b,o+j*11+i,none⟩) (World.block_lt_of_cell? _ _ this)]
  exact this,h2,h3,h4.below hb,h5⟩
theorem z28.at {b o:Nat} {fs:List (Hd × List Nat)} (h:z28 w (some ⟨b,o,none⟩) cap fs) {j:Nat} (hj:j < fs.length) {K I:Int} {X R B E S:Bool} {D V A:Int} (hf:fs.getD j dF=(⟨K,I,X,R,B,E,S,D,V,A⟩,l)) :
    ∃a' c',(w.cell? ⟨b,o+j*11,none⟩=some (.int .i64 K)/\w.cell? ⟨b,o+j*11+1,none⟩=some (.int .u32 I)/\w.cell? ⟨b,o+j*11+2,none⟩=some (.bool X)/\w.cell? ⟨b,o+j*11+3,none⟩=some (.bool R)/\w.cell? ⟨b,o+j*11+4,none⟩=some (.bool B)/\w.cell? ⟨b,o+j*11+5,none⟩=some (.bool E)/\w.cell? ⟨b,o+j*11+6,none⟩=some (.bool S)/\w.cell? ⟨b,o+j*11+7,none⟩=some (.int .u8 D)/\w.cell? ⟨b,o+j*11+8,none⟩=some (.int .u8 V)/\w.cell? ⟨b,o+j*11+9,none⟩=some (.int .u32 A)/\w.cell? ⟨b,o+j*11+10,none⟩=some (.slice a' l.length c')) /\
     WdX ⟨K,I,X,R,B,E,S,D,V,A⟩/\(Lit.int .i64 K).wf=true/\Bs w a' c' l/\(a'=none->c'=0):=by
 obtain⟨b',o',e,hc⟩:=h.hcells (by omega)
 simp only[Option.some.injEq,Addr.mk.injEq,and_true]at e
 obtain⟨rfl,rfl⟩:=e
 obtain⟨a',c',h1,h2,h3,h4,h5⟩:=hc j hj
 rw[hf]at h1 h2 h3 h4
 exact⟨a',c',⟨h1 0 _ rfl,h1 1 _ rfl,h1 2 _ rfl,h1 3 _ rfl,h1 4 _ rfl,h1 5 _ rfl,h1 6 _ rfl,h1 7 _ rfl,h1 8 _ rfl,h1 9 _ rfl,h1 10 _ rfl⟩,h2,h3,h4,h5⟩
theorem zjd {enc:TypeId × Value->H} {v:Value} {y:DataW H × List MemPlace}
    (h:DataW.trod enc Tryz.prog w 0 (fun _=>true) true fuel 23 [v]=some y) :
    ∃a cap fs,v = .slice a (List.length fs) cap/\z28 w a cap fs/\(a=none->cap=0):=by
 rcases Go.Deep.open_slice Tryz.underlying23 h with ⟨hcs,_⟩ | ⟨a,len,cap,m,n,D,Pl,hcs,_,hl,hm,hmm,_,hx⟩
 ·exact⟨none,0,[],by simpa using hcs,z28.nil w,fun _=>rfl⟩
 rw[show Tryz.prog.cellsOf 37=11 from by kernel_rfl]at hx
 have hle:len<=m:=by rw[hmm];split<;>omega
 have hk:∀j,j < len->∃p:Hd × List Nat,∃a' c',(∀i u,(p.1.cs (.slice a' p.2.length c')).toList[i]? = some u->w.cell? ((a.add (j*11)).add i)=some u)/\WdX p.1/\(Lit.int .i64 p.1.K).wf=true/\Bs w a' c' p.2/\(a'=none->c'=0):=by
  intro j hj
  obtain⟨cs,h1,h2⟩:=hx j (by omega)
  obtain⟨_,hlen,hcell⟩:=World.cells?_some h1
  obtain⟨f,l,a',c',rfl,hw,hK,hb,hnn⟩:=z6o hlen h2
  refine⟨(f,l),a',c',fun i u hu => ?_,hw,hK,hb,hnn⟩
  have hi:i < 11:=by rw[<- hlen];exact(List.getElem?_eq_some_iff.1 hu).1
  rw[hcell i hi]
  exact hu
 haveI:Inhabited (Hd × List Nat):=⟨dF⟩
 obtain⟨g,hg⟩:=Go.Deep.choose_lt hk
 refine⟨some a,cap,(List.range len).map g,by simpa using hcs,⟨by simpa using hl,hm,fun h0 => ?_⟩,fun h=>by cases h⟩
 simp only[List.length_map,List.length_range]at h0 ⊢
 obtain⟨b,o,s⟩:=a
 have hs:s=none:=by
  obtain⟨a',c',h1,_⟩:=hg 0 h0
  have:=h1 0 _ rfl
  simpa [Addr.add]using World.cell?_spot this
 subst hs
 refine⟨b,o,rfl,fun j hj => ?_⟩
 have e:((List.range len).map g).getD j dF=g j:=by simp[List.getD,hj]
 rw[e]
 obtain⟨a',c',h1,h2,h3,h4,h5⟩:=hg j hj
 refine⟨a',c',fun i u hu => ?_,h2,h3,h4,h5⟩
 have:=h1 i u hu
 rwa[Addr.add_lit,Addr.add_lit]at this
theorem zjH {enc:TypeId × Value->H} {v:Value} {y:DataW H × List MemPlace}
    (h:DataW.trod enc Tryz.prog w 0 (fun _=>true) true fuel 23 [v]=some y) :
    ∃a cap fs,v = .slice a (List.length fs) cap/\z28 w a cap fs/\(a=none->cap=0):=by
 rcases Go.Deep.open_slice Tryz.underlying23 h with ⟨hcs,_⟩ | ⟨a,len,cap,m,n,D,Pl,hcs,_,hl,hm,hmm,_,hx⟩
 ·exact⟨none,0,[],by simpa using hcs,z28.nil w,fun _=>rfl⟩
 rw[show Tryz.prog.cellsOf 37=11 from by kernel_rfl]at hx
 have hle:len<=m:=by rw[hmm];split<;>omega
 have hk:∀j,j < len->∃p:Hd × List Nat,∃a' c',(∀i u,(p.1.cs (.slice a' p.2.length c')).toList[i]? = some u->w.cell? ((a.add (j*11)).add i)=some u)/\WdX p.1/\(Lit.int .i64 p.1.K).wf=true/\Bs w a' c' p.2/\(a'=none->c'=0):=by
  intro j hj
  obtain⟨cs,h1,h2⟩:=hx j (by omega)
  obtain⟨_,hlen,hcell⟩:=World.cells?_some h1
  obtain⟨f,l,a',c',rfl,hw,hK,hb,hnn⟩:=z6o hlen h2
  refine⟨(f,l),a',c',fun i u hu => ?_,hw,hK,hb,hnn⟩
  have hi:i < 11:=by rw[<- hlen];exact(List.getElem?_eq_some_iff.1 hu).1
  rw[hcell i hi]
  exact hu
 haveI:Inhabited (Hd × List Nat):=⟨dF⟩
 obtain⟨g,hg⟩:=Go.Deep.choose_lt hk
 refine⟨some a,cap,(List.range len).map g,by simpa using hcs,⟨by simpa using hl,hm,fun h0 => ?_⟩,fun h=>by cases h⟩
 simp only[List.length_map,List.length_range]at h0 ⊢
 obtain⟨b,o,s⟩:=a
 have hs:s=none:=by
  obtain⟨a',c',h1,_⟩:=hg 0 h0
  have:=h1 0 _ rfl
  simpa [Addr.add]using World.cell?_spot this
 subst hs
 refine⟨b,o,rfl,fun j hj => ?_⟩
 have e:((List.range len).map g).getD j dF=g j:=by simp[List.getD,hj]
 rw[e]
 obtain⟨a',c',h1,h2,h3,h4,h5⟩:=hg j hj
 refine⟨a',c',fun i u hu => ?_,h2,h3,h4,h5⟩
 have:=h1 i u hu
 rwa[Addr.add_lit,Addr.add_lit]at this
end Go.Proofs.YtplbmlpdefpplaaGreatDoor
