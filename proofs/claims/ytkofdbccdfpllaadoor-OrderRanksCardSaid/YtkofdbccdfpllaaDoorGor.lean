/- Places by rising keys: a heap's order on lists of pairs, ranks. No program here. No conditions. Frames' keys as numbers and as bits, and what arbitrates. No program here. No conditions but the fields' own widths. The program's keys of frames: flag, short, long, Key, Compare. Condition: the table of longer sizes holds what the program's text lays there. The program's Compare of frames by their keys. Condition: the table of longer sizes holds what the program's text lays there. What a slice of frames is that came in. No conditions. -/
import Derived.Test.YtkofdbccdfpllaaDoorGa
import Derived.Test.YtkofdbccdfpllaaDoorClaP
import Derived.Test.YtkofdbccdfpllaaDoorGj
import Derived.Test.YtkofdbccdfpllaaDoorFrmE
import Derived.Test.YtkofdbccdfpllaaDoorXlP
import Derived.Deep.Slices
set_option maxHeartbeats 1600000
set_option maxRecDepth 100000
namespace Go.Proofs.YtkofdbccdfpllaaDoor
set_option linter.unusedVariables false
set_option linter.unusedSimpArgs false
open Go.RowKit
def leP (p q:Nat × Nat):Prop:=p.1 < q.1\/p.1=q.1/\p.2<=q.2
instance (p q:Nat × Nat):Decidable (leP p q):=by unfold leP;infer_instance
def leB (p q:Nat × Nat):Bool:=decide (leP p q)
def ahB (p q:Nat × Nat):Bool:=if p.1=q.1 then decide (p.2 < q.2) else decide (p.1 < q.1)
theorem ahB_iff (p q:Nat × Nat):ahB p q=true↔¬leP q p:=by
 unfold ahB leP
 split<;>simp<;>omega
theorem leP_refl (p:Nat × Nat):leP p p:=by unfold leP;omega
theorem leP_trans {p q r:Nat × Nat} (h:leP p q) (k:leP q r):leP p r:=by unfold leP at *;omega
theorem leP_total (p q:Nat × Nat):leP p q\/leP q p:=by unfold leP;omega
theorem leP_anti {p q:Nat × Nat} (h:leP p q) (k:leP q p):p=q:=by
 obtain⟨a,b⟩:=p
 obtain⟨c,d⟩:=q
 unfold leP at *
 simp only at h k
 have:a=c/\b=d:=by omega
 rw[this.1,this.2]
theorem leP_not {p q:Nat × Nat} (h:¬leP p q):leP q p:=(leP_total p q).resolve_left h
abbrev d0:Nat × Nat:=(0,0)
def swp (l:List (Nat × Nat)) (i j:Nat):List (Nat × Nat):=(l.set i (l.getD j d0)).set j (l.getD i d0)
theorem swp_len (l:List (Nat × Nat)) (i j:Nat):(swp l i j).length=l.length:=by simp[swp]
theorem swp_get (l:List (Nat × Nat)) {i j:Nat} (hi:i < l.length) (hj:j < l.length) (k:Nat) :
    (swp l i j).getD k d0=if k=j then l.getD i d0 else if k=i then l.getD j d0 else l.getD k d0:=by
 unfold swp
 generalize l.getD j d0=u
 generalize l.getD i d0=v
 by_cases h1:k=j
 ·subst h1
  simp[List.getD,hj]
 ·rw[if_neg h1,List.getD,List.getElem?_set_ne (Ne.symm h1)]
  by_cases h2:k=i
  ·subst h2
   simp[hi]
  ·rw[if_neg h2,List.getElem?_set_ne (Ne.symm h2)];rfl
theorem swp_perm (l:List (Nat × Nat)) {i j:Nat} (hi:i < l.length) (hj:j < l.length):(swp l i j).Perm l:=by
 have e1:l.getD j d0=l[j]:=by simp[List.getD,hj]
 have e2:l.getD i d0=l[i]:=by simp[List.getD,hi]
 unfold swp
 rw[e1,e2]
 exact List.set_set_perm hi hj
def HpF (l:List (Nat × Nat)) (n i0:Nat):Prop:=∀ c,0 < c->c < n->i0<=(c - 1) / 2->leP (l.getD ((c - 1) / 2) d0) (l.getD c d0)
theorem HpF.half (l:List (Nat × Nat)) {n i0:Nat} (h:n<=2*i0+1):HpF l n i0:=fun c h1 h2 h3=>by omega
theorem HpF.min {l:List (Nat × Nat)} {n:Nat} (h:HpF l n 0):∀ c,c < n->leP (l.getD 0 d0) (l.getD c d0):=by
 intro c
 induction c using Nat.strongRecOn with
 | _ c ih =>
   intro hc
   by_cases h0:c=0
   ·subst h0;exact leP_refl _
   ·exact leP_trans (ih ((c - 1) / 2) (by omega) (by omega)) (h c (by omega) hc (Nat.zero_le _))
theorem HpF.less {l:List (Nat × Nat)} {n m i0:Nat} (h:HpF l n i0) (hm:m<=n):HpF l m i0:=fun c h1 h2 h3=>h c h1 (by omega) h3
theorem HpF.congr {l l':List (Nat × Nat)} {n i0:Nat} (h:HpF l n i0) (he:∀ k,i0<=k->k < n->l'.getD k d0=l.getD k d0):HpF l' n i0:=fun c h1 h2 h3=>by
 rw[he _ h3 (by omega),he c (by omega) h2]
 exact h c h1 h2 h3
structure DnI (l0 l:List (Nat × Nat)) (n i0 i:Nat):Prop where
 len:l.length=l0.length
 perm:l.Perm l0
 rest:∀ k,n<=k->l.getD k d0=l0.getD k d0
 heap:∀ c,0 < c->c < n->i0<=(c - 1) / 2->(c - 1) / 2≠i->leP (l.getD ((c - 1) / 2) d0) (l.getD c d0)
 over:i0 < i->∀ c,0 < c->c < n->(c - 1) / 2=i->leP (l.getD ((i - 1) / 2) d0) (l.getD c d0)
 from0:i0<=i
 par:i0 < i->i0<=(i - 1) / 2
theorem DnI.start {l:List (Nat × Nat)} {n i0:Nat} (h:HpF l n (i0+1)):DnI l l n i0 i0 :=
 ⟨rfl,List.Perm.refl _,fun _ _=>rfl,fun c h1 h2 h3 h4=>h c h1 h2 (by omega),fun h=>by omega,Nat.le_refl _,fun h=>by omega⟩
def kid (l:List (Nat × Nat)) (n i:Nat):Nat:=if 2*i+2 < n/\ahB (l.getD (2*i+2) d0) (l.getD (2*i+1) d0)=true then 2*i+2 else 2*i+1
theorem kid_or (l:List (Nat × Nat)) (n i:Nat):(kid l n i=2*i+1\/kid l n i=2*i+2/\2*i+2 < n):=by
 unfold kid
 split
 ·rename_i h;exact .inr ⟨rfl,h.1⟩
 ·exact .inl rfl
theorem kid_min {l:List (Nat × Nat)} {n i c:Nat} (h0:0 < c) (hc:c < n) (hp:(c - 1) / 2=i):leP (l.getD (kid l n i) d0) (l.getD c d0):=by
 have:c=2*i+1\/c=2*i+2:=by omega
 unfold kid
 split
 ·rename_i h
  rcases this with rfl | rfl
  ·exact leP_not ((ahB_iff _ _).1 h.2)
  ·exact leP_refl _
 ·rename_i h
  rcases this with rfl | rfl
  ·exact leP_refl _
  ·by_cases hb:ahB (l.getD (2*i+2) d0) (l.getD (2*i+1) d0)=true
   ·exact absurd ⟨hc,hb⟩ h
   ·have:=mt (ahB_iff _ _).2 hb
    exact Decidable.not_not.1 this
theorem DnI.stop1 {l0 l:List (Nat × Nat)} {n i0 i:Nat} (h:DnI l0 l n i0 i) (hn:n<=2*i+1):HpF l n i0:=fun c h1 h2 h3=>h.heap c h1 h2 h3 (by omega)
theorem DnI.stop2 {l0 l:List (Nat × Nat)} {n i0 i:Nat} (h:DnI l0 l n i0 i) (hk:ahB (l.getD (kid l n i) d0) (l.getD i d0)=false):HpF l n i0:=fun c h1 h2 h3=>by
 by_cases hc:(c - 1) / 2=i
 ·rw[hc]
  have h4:leP (l.getD i d0) (l.getD (kid l n i) d0):=by
   have:=mt (ahB_iff (l.getD (kid l n i) d0) (l.getD i d0)).2 (by rw[hk];simp)
   exact Decidable.not_not.1 this
  exact leP_trans h4 (kid_min h1 h2 hc)
 ·exact h.heap c h1 h2 h3 hc
theorem DnI.step {l0 l:List (Nat × Nat)} {n i0 i:Nat} (h:DnI l0 l n i0 i) (hn:2*i+1 < n) (hl:n<=l.length) (hk:ahB (l.getD (kid l n i) d0) (l.getD i d0)=true) :
    DnI l0 (swp l i (kid l n i)) n i0 (kid l n i):=by
 have hj:=kid_or l n i
 have hm:=fun c h0 hc hp=>kid_min (l:=l) (n:=n) (i:=i) (c:=c) h0 hc hp
 generalize hkk:kid l n i=j at *
 have hle:leP (l.getD j d0) (l.getD i d0):=leP_not ((ahB_iff _ _).1 hk)
 have hi:i < l.length:=by omega
 have hjl:j < l.length:=by omega
 have g:=swp_get l hi hjl
 have f0:=h.from0
 refine⟨by rw[swp_len,h.len],(swp_perm l hi hjl).trans h.perm,fun k hk => ?_,fun c h1 h2 h3 h4 => ?_,fun h0 c h1 h2 h3 => ?_,by omega,fun _=>by omega⟩
 ·rw[g,if_neg (by omega),if_neg (by omega)]
  exact h.rest k hk
 ·by_cases hp:(c - 1) / 2=i
  ·rw[hp,g,if_neg (by omega),if_pos rfl,g]
   by_cases hcj:c=j
   ·rw[if_pos hcj];exact hle
   ·rw[if_neg hcj,if_neg (by omega)]
    exact hm c h1 h2 hp
  ·have hcj:c≠j:=by omega
   rw[g,if_neg h4,if_neg hp,g,if_neg hcj]
   by_cases hci:c=i
   ·subst hci
    rw[if_pos rfl]
    exact h.over (by omega) j (by omega) (by omega) (by omega)
   ·rw[if_neg hci]
    exact h.heap c h1 h2 h3 hp
 ·have e:(j - 1) / 2=i:=by omega
  rw[e,g,if_neg (by omega),if_pos rfl,g,if_neg (by omega),if_neg (by omega)]
  have:=h.heap c h1 h2 (by omega) (by omega)
  rwa[h3] at this
theorem getD_ext' {l m:List (Nat × Nat)} (hl:l.length=m.length) (h:∀ k,k < l.length->l.getD k d0=m.getD k d0):l=m:=by
 apply List.ext_getElem hl
 intro k h1 h2
 have:=h k h1
 simpa [List.getD,h1,h2] using this
theorem DnI.head {l0 l:List (Nat × Nat)} {n i0 i:Nat} (h:DnI l0 l n i0 i) (hn:n<=l0.length):(l.take n).Perm (l0.take n):=by
 have e:l.drop n=l0.drop n:=by
  apply getD_ext' (by simp[h.len])
  intro k _
  have:=h.rest (n+k) (by omega)
  simpa [List.getD,List.getElem?_drop] using this
 have hp:=h.perm
 rw[<- List.take_append_drop n l,<- List.take_append_drop n l0,e] at hp
 exact (List.perm_append_right_iff _).1 hp
def prs (ks:List Nat):List (Nat × Nat):=ks.zipIdx
def rkP (ks:List Nat):List (Nat × Nat):=(prs ks).mergeSort leB
def rk (ks:List Nat):List Nat:=(rkP ks).map (·.2)
theorem rkP_perm (ks:List Nat):(rkP ks).Perm (prs ks):=List.mergeSort_perm _ _
theorem rkP_sorted (ks:List Nat):(rkP ks).Pairwise leP:=by
 have:=List.pairwise_mergeSort (le:=leB) (fun a b c h k=>by simp only[leB,decide_eq_true_eq] at *;exact leP_trans h k) (fun a b=>by simp only[leB,Bool.or_eq_true,decide_eq_true_eq];exact leP_total a b) (prs ks)
 exact this.imp (fun h=>by simpa [leB] using h)
theorem rkP_of {ks:List Nat} {l:List (Nat × Nat)} (hp:l.Perm (prs ks)) (hs:l.Pairwise leP):l=rkP ks :=
 List.Perm.eq_of_pairwise (fun _ _ _ _ h k=>leP_anti h k) hs (rkP_sorted ks) (hp.trans (rkP_perm ks).symm)
theorem rk_len (ks:List Nat):(rk ks).length=ks.length:=by
 rw[rk,List.length_map,(rkP_perm ks).length_eq,prs,List.length_zipIdx]
theorem prs_snoc (ks:List Nat) (k:Nat):prs (ks++[k])=prs ks++[(k,ks.length)]:=by simp[prs,List.zipIdx_append]
theorem mem_prs {ks:List Nat} {p:Nat × Nat} (h:p∈prs ks):p.2 < ks.length/\ks.getD p.2 0=p.1:=by
 obtain⟨k,i⟩:=p
 rw[prs,List.mem_zipIdx_iff_getElem?] at h
 simp only at h
 exact⟨(List.getElem?_eq_some_iff.1 h).1,by simp[List.getD,h]⟩
theorem prs_map (ks:List Nat):(prs ks).map (·.2)=List.range ks.length:=by
 rw[prs]
 simp[List.range_eq_range']
theorem rk_perm (ks:List Nat):(rk ks).Perm (List.range ks.length):=by
 rw[<- prs_map]
 exact (rkP_perm ks).map _
theorem rk_nodup (ks:List Nat):(rk ks).Nodup:=(rk_perm ks).nodup_iff.2 List.nodup_range
theorem rk_lt (ks:List Nat):∀ x∈rk ks,x < ks.length:=fun x hx=>List.mem_range.1 ((rk_perm ks).mem_iff.1 hx)
theorem rkP_eq (ks:List Nat):rkP ks=(rk ks).map fun i=>(ks.getD i 0,i):=by
 rw[rk,List.map_map]
 conv=>lhs;rw[<- List.map_id (rkP ks)]
 apply List.map_congr_left
 intro p hp
 have:=mem_prs ((rkP_perm ks).mem_iff.1 hp)
 obtain⟨a,b⟩:=p
 simp only[Function.comp,id]
 simp only at this
 rw[this.2]
theorem rk_sorted (ks:List Nat):(rk ks).Pairwise fun i j=>leP (ks.getD i 0,i) (ks.getD j 0,j):=by
 have h:=rkP_sorted ks
 rw[rkP_eq,List.pairwise_map] at h
 exact h
end Go.Proofs.YtkofdbccdfpllaaDoor
namespace Go.Proofs.YtkofdbccdfpllaaDoor
set_option linter.unusedVariables false
set_option linter.unusedSimpArgs false
open Go.RowKit
theorem numN_app (a b:List Nat):numN (a++b)=numN a*2^b.length+numN b:=by
 refine snocInd (P:=fun b=>numN (a++b)=numN a*2^b.length+numN b) (by simp[numN]) (fun l x ih => ?_) b
 rw[<- List.append_assoc,numN_snoc,ih,numN_snoc,List.length_append,List.length_singleton,Nat.pow_succ,Nat.add_mul]
 rw[Nat.mul_assoc]
 omega
def keyS (K:Int) (R:Bool) (i:Nat):Nat:=i*8388608+bitB R*4194304+bitB (K != 1)*1048576+bitB (K==3)*524288
def keyX (R:Bool) (i:Nat):Nat:=i / 262144*8388608+6291456+i%262144*8+bitB R*4
def keyF (f:Hd):Nat:=if f.X then keyX f.R f.I.toNat else keyS f.K f.R f.I.toNat
def keyV (f:Hd) (l:List Nat):Nat:=if okF f l then keyF f else 0
def kbS (K:Int) (R:Bool) (i:Nat):List Nat:=bitsN i 11++([bitB R,0,bitB (K != 1),bitB (K==3)]++List.replicate 19 0)
def kbX (R:Bool) (i:Nat):List Nat:=bitsN (i / 262144) 11++([1,1]++(bitsN (i%262144) 18++[bitB R,0,0]))
theorem kbS_len (K:Int) (R:Bool) (i:Nat):(kbS K R i).length=34:=by simp[kbS,bitsN_length]
theorem kbX_len (R:Bool) (i:Nat):(kbX R i).length=34:=by simp[kbX,bitsN_length]
theorem kbS_bit (K:Int) (R:Bool) (i:Nat):∀ x∈kbS K R i,x<=1:=by
 intro x hx
 have h1:=bitB_le R
 have h2:=bitB_le (K != 1)
 have h3:=bitB_le (K==3)
 simp only[kbS,List.mem_append,List.mem_cons,List.not_mem_nil,or_false,List.mem_replicate] at hx
 rcases hx with hx | (rfl | rfl | rfl | rfl) | hx
 ·exact bitsN_le _ _ x hx
 all_goals omega
theorem kbX_bit (R:Bool) (i:Nat):∀ x∈kbX R i,x<=1:=by
 intro x hx
 have h1:=bitB_le R
 simp only[kbX,List.mem_append,List.mem_cons,List.not_mem_nil,or_false] at hx
 rcases hx with hx | (rfl | rfl) | hx | (rfl | rfl | rfl)
 ·exact bitsN_le _ _ x hx
 ·omega
 ·omega
 ·exact bitsN_le _ _ x hx
 all_goals omega
theorem kbS_num (K:Int) (R:Bool) (i:Nat) (h:i < 2048):numN (kbS K R i)=keyS K R i:=by
 have h1:=numN_bitsN i 11 (by omega)
 have h2:numN (List.replicate 19 0)=0:=by decide
 have h3:numN [bitB R,0,bitB (K != 1),bitB (K==3)]=bitB R*8+bitB (K != 1)*2+bitB (K==3):=by
  simp only[numN,List.foldl]
  omega
 rw[kbS,numN_app,numN_app,h1,h2,h3,keyS]
 simp only[List.length_append,List.length_cons,List.length_nil,List.length_replicate]
 omega
theorem kbX_num (R:Bool) (i:Nat) (h:i < 536870912):numN (kbX R i)=keyX R i:=by
 have h1:=numN_bitsN (i / 262144) 11 (by omega)
 have h2:=numN_bitsN (i%262144) 18 (by omega)
 have h3:numN [bitB R,0,0]=bitB R*4:=by
  simp only[numN,List.foldl]
  omega
 have h4:numN [1,1]=3:=by decide
 rw[kbX,numN_app,numN_app,numN_app,h1,h2,h3,h4,keyX]
 simp only[List.length_append,List.length_cons,List.length_nil,bitsN_length]
 omega
theorem keyS_lt (K:Int) (R:Bool) (i:Nat) (h:i < 2048):keyS K R i < 17179869184:=by
 have:=numN_lt _ (kbS_bit K R i)
 rw[kbS_num K R i h,kbS_len] at this
 exact this
theorem keyX_lt (R:Bool) (i:Nat) (h:i < 536870912):keyX R i < 17179869184:=by
 have:=numN_lt _ (kbX_bit R i)
 rw[kbX_num R i h,kbX_len] at this
 exact this
theorem or_add (a b i:Nat) (h:b < 2^i) (ha:a%2^i=0):a ||| b=a+b:=by
 have e:a=2^i*(a / 2^i):=by
  have:=Nat.div_add_mod a (2^i)
  omega
 rw[e,<- Nat.two_pow_add_eq_or_of_lt h]
inductive Shp (f:Hd):Prop
 | cl (h:f.K=1) (hx:f.X=false) (hi:f.I.toNat < 2048)
 | cx (h:f.K=1) (hx:f.X=true) (hi:f.I.toNat < 536870912)
 | fd (h:f.K=2) (hx:f.X=false) (hr:f.R=false) (hi:f.I.toNat < 2048)
 | xl (h:f.K=3) (hx:f.X=false) (hr:f.R=false) (hi:f.I.toNat < 2048)
theorem kind_of {f:Hd} {l:List Nat} (h:okF f l=true):f.K=1\/f.K=2\/f.K=3:=by
 simp only[okF,Bool.and_eq_true] at h
 exact hasF_kind h.1
theorem shp_of {f:Hd} {l:List Nat} (h:okF f l=true) (hI:0<=f.I):Shp f:=by
 have hk:=kind_of h
 obtain⟨K,I,X,R,B,E,S,D,V,A⟩:=f
 simp only at hk hI
 rcases hk with rfl | rfl | rfl
 ·obtain⟨i,_,e2,_,_,hx,hi⟩:=okC_parts (f:=⟨1,I,X,R,B,E,S,D,V,A⟩) (l:=l) (by simp[okC,h]) hI
  cases X with
  | false=>exact .cl rfl rfl (by rw[e2];exact hx rfl)
  | true=>exact .cx rfl rfl (by rw[e2];exact hi)
 ·rw[okF_fd] at h
  simp only[okFd,Bool.and_eq_true,Bool.not_eq_true',decide_eq_true_eq] at h
  obtain⟨_,hi,rfl,rfl,_⟩:=h
  exact .fd rfl rfl rfl (by show I.toNat < 2048;omega)
 ·rw[okF_xl] at h
  simp only[okXl,Bool.and_eq_true,Bool.not_eq_true',decide_eq_true_eq] at h
  obtain⟨_,hi,rfl,rfl,_⟩:=h
  exact .xl rfl rfl rfl (by show I.toNat < 2048;omega)
theorem keyF_lt {f:Hd} (h:Shp f):keyF f < 17179869184:=by
 unfold keyF
 cases h with
 | cl h hx hi=>rw[hx];exact keyS_lt _ _ _ hi
 | cx h hx hi=>rw[hx];exact keyX_lt _ _ hi
 | fd h hx hr hi=>rw[hx];exact keyS_lt _ _ _ hi
 | xl h hx hr hi=>rw[hx];exact keyS_lt _ _ _ hi
def hiF (f:Hd):Nat:=if f.X then f.I.toNat / 262144 else f.I.toNat
def loF (f:Hd):Nat:=if f.X then 6291456+f.I.toNat%262144*8+bitB f.R*4 else bitB f.R*4194304+bitB (f.K != 1)*1048576+bitB (f.K==3)*524288
def tlF (f:Hd):List Nat:=if f.X then [1,1]++(bitsN (f.I.toNat%262144) 18++[bitB f.R,0,0]) else if f.K=2 then [0,0,1,0] else if f.K=3 then [0,0,1,1,0] else [bitB f.R,0,0]
def hdF (f:Hd):List Nat:=[0]++(bitsN (hiF f) 11++tlF f)
theorem keyF_parts (f:Hd):keyF f=hiF f*8388608+loF f:=by
 unfold keyF hiF loF keyX keyS
 split<;>omega
theorem loF_lt {f:Hd}:loF f < 8388608:=by
 have h1:=bitB_le f.R
 have h2:=bitB_le (f.K != 1)
 have h3:=bitB_le (f.K==3)
 unfold loF
 split<;>omega
theorem hiF_lt {f:Hd} (h:Shp f):hiF f < 2048:=by
 unfold hiF
 cases h with
 | cl h hx hi=>rw[hx];exact hi
 | cx h hx hi=>rw[hx];show _ / _ < _;omega
 | fd h hx hr hi=>rw[hx];exact hi
 | xl h hx hr hi=>rw[hx];exact hi
theorem tl_of {f:Hd} (h:Shp f) :
    (f.X=true/\loF f=6291456+f.I.toNat%262144*8+bitB f.R*4/\tlF f=[1,1]++(bitsN (f.I.toNat%262144) 18++[bitB f.R,0,0])) \/
    (f.X=false/\f.K=1/\f.R=false/\loF f=0/\tlF f=[0,0,0])\/(f.X=false/\f.K=1/\f.R=true/\loF f=4194304/\tlF f=[1,0,0]) \/
    (f.X=false/\f.K=2/\f.R=false/\loF f=1048576/\tlF f=[0,0,1,0])\/(f.X=false/\f.K=3/\f.R=false/\loF f=1572864/\tlF f=[0,0,1,1,0]):=by
 unfold loF tlF
 cases h with
 | cl h hx hi=>cases hr:f.R<;>simp[h,hx,bitB]
 | cx h hx hi=>simp[h,hx]
 | fd h hx hr hi=>simp[h,hx,hr,bitB]
 | xl h hx hr hi=>simp[h,hx,hr,bitB]
theorem Less.at {a b:List Nat} (d:Nat) (h1:d < a.length) (h2:d < b.length) (h3:a.take d=b.take d) (h4:a.getD d 0=0) (h5:b.getD d 0=1):Less a b:=⟨d,h1,h2,h3,h4,h5⟩
theorem tl_less {f g:Hd} (hf:Shp f) (hg:Shp g) (h:loF f < loF g):Less (tlF f) (tlF g):=by
 have b1:=bitB_le f.R
 have b2:=bitB_le g.R
 rcases tl_of hf with ⟨_,e1,e2⟩ | ⟨_,_,_,e1,e2⟩ | ⟨_,_,_,e1,e2⟩ | ⟨_,_,_,e1,e2⟩ | ⟨_,_,_,e1,e2⟩ <;>
 rcases tl_of hg with ⟨_,g1,g2⟩ | ⟨_,_,_,g1,g2⟩ | ⟨_,_,_,g1,g2⟩ | ⟨_,_,_,g1,g2⟩ | ⟨_,_,_,g1,g2⟩ <;>
 rw[e1,g1] at h<;>first | (exfalso;omega) | rw[e2,g2]
 ·refine Less.pre ?_ _
  by_cases he:f.I.toNat%262144=g.I.toNat%262144
  ·rw[he]
   refine Less.pre (Less.at (a:=[bitB f.R,0,0]) (b:=[bitB g.R,0,0]) 0 (by simp) (by simp) rfl ?_ ?_) _
   ·show bitB f.R=0;omega
   ·show bitB g.R=1;omega
  ·exact (bitsN_less 18 _ _ (by omega) (by omega)).post _ _
 all_goals first
  | exact Less.at 0 (by simp) (by simp) rfl rfl rfl
  | exact Less.at 1 (by simp) (by simp) rfl rfl rfl
  | exact Less.at 2 (by simp) (by simp) rfl rfl rfl
  | exact Less.at 3 (by simp) (by simp) rfl rfl rfl
theorem hd_less {f g:Hd} (hf:Shp f) (hg:Shp g) (h:keyF f < keyF g):Less (hdF f) (hdF g):=by
 have l1:=loF_lt (f:=f)
 have l2:=loF_lt (f:=g)
 have m2:=hiF_lt hg
 rw[keyF_parts,keyF_parts] at h
 unfold hdF
 refine Less.pre ?_ _
 by_cases he:hiF f=hiF g
 ·rw[he] at h ⊢
  exact (tl_less hf hg (by omega)).pre _
 ·exact (bitsN_less 11 _ _ (by omega) (by omega)).post _ _
theorem shp_x {f:Hd} (h:Shp f):f.X=true->f.K=1:=fun hx=>by
 cases h with
 | cl h _ _=>exact h
 | cx h _ _=>exact h
 | fd _ h _ _=>rw[h] at hx;cases hx
 | xl _ h _ _=>rw[h] at hx;cases hx
theorem key_same {f g:Hd} (hf:Shp f) (hg:Shp g) (h:keyF f=keyF g):f.K=g.K/\f.I.toNat=g.I.toNat/\f.X=g.X/\f.R=g.R:=by
 have l1:=loF_lt (f:=f)
 have l2:=loF_lt (f:=g)
 have b1:=bitB_le f.R
 have b2:=bitB_le g.R
 rw[keyF_parts,keyF_parts] at h
 have hh:hiF f=hiF g:=by omega
 have hl:loF f=loF g:=by omega
 clear h
 have k1:=shp_x hf
 have k2:=shp_x hg
 rcases tl_of hf with ⟨x1,e1,e2⟩ | ⟨x1,y1,z1,e1,e2⟩ | ⟨x1,y1,z1,e1,e2⟩ | ⟨x1,y1,z1,e1,e2⟩ | ⟨x1,y1,z1,e1,e2⟩ <;>
 rcases tl_of hg with ⟨x2,g1,g2⟩ | ⟨x2,y2,z2,g1,g2⟩ | ⟨x2,y2,z2,g1,g2⟩ | ⟨x2,y2,z2,g1,g2⟩ | ⟨x2,y2,z2,g1,g2⟩ <;>
 rw[e1,g1] at hl<;>first | (exfalso;omega) | skip
 ·simp only[hiF,x1,x2,if_true] at hh
  refine⟨by rw[k1 x1,k2 x2],by omega,by rw[x1,x2],?_⟩
  have:bitB f.R=bitB g.R:=by omega
  exact bitB_inj this
 all_goals
  simp only[hiF,x1,x2,Bool.false_eq_true,if_false] at hh
  exact⟨by rw[y1,y2],hh,by rw[x1,x2],by rw[z1,z2]⟩
end Go.Proofs.YtkofdbccdfpllaaDoor
namespace Go.Proofs.YtkofdbccdfpllaaDoor
set_option linter.unusedVariables false
set_option linter.unusedSimpArgs false
open Go.RowKit
theorem flag10_any (b:Bool) (w:World):Calls Tryd.prog 40 #[.bool b] w fun e w'=>e = .returned (.int .u64 (bitB b:Nat))/\w'=w:=by
 cases b
 all_goals go_enter Tryd.func40,Tryd.ntmps40
 all_goals go_wp2
 all_goals go_ret
 all_goals exact⟨rfl,rfl⟩
theorem or64 (a b i:Nat) (ha:a < 9223372036854775808) (hb:b < 2^i) (hi:2^i<=9223372036854775808) (h0:a%2^i=0):bits BinOp.or IntKind.u64 (a:Int) (b:Int)=((a+b:Nat):Int):=by
 rw[bits_or_u64_nat a b (by omega) (by omega),or_add a b i hb h0]
theorem wrapB (b:Bool):IntKind.u64.wrap ((bitB b:Int)*4194304)=((bitB b*4194304:Nat):Int)/\IntKind.u64.wrap ((bitB b:Int)*1048576)=((bitB b*1048576:Nat):Int) /\
    IntKind.u64.wrap ((bitB b:Int)*524288)=((bitB b*524288:Nat):Int)/\IntKind.u64.wrap ((bitB b:Int)*4)=((bitB b*4:Nat):Int):=by
 cases b<;>decide +kernel
theorem orS (K:Int) (R:Bool) (i:Nat) (hi:i < 2048) :
    bits BinOp.or IntKind.u64 (bits BinOp.or IntKind.u64 (bits BinOp.or IntKind.u64 ((i:Int)*8388608) (IntKind.u64.wrap ((bitB R:Int)*4194304))) (IntKind.u64.wrap ((bitB (K != 1):Int)*1048576))) (IntKind.u64.wrap ((bitB (K==3):Int)*524288))=((keyS K R i:Nat):Int):=by
 have h1:=bitB_le R
 have h2:=bitB_le (K != 1)
 have h3:=bitB_le (K==3)
 rw[(wrapB R).1,(wrapB (K != 1)).2.1,(wrapB (K==3)).2.2.1]
 unfold keyS
 generalize bitB R=r at *
 generalize bitB (K != 1)=n at *
 generalize bitB (K==3)=x at *
 have e0:(i:Int)*8388608=((i*8388608:Nat):Int):=by omega
 rw[e0,or64 (i*8388608) (r*4194304) 23 (by omega) (by omega) (by omega) (by omega),or64 (i*8388608+r*4194304) (n*1048576) 22 (by omega) (by omega) (by omega) (by omega),
  or64 (i*8388608+r*4194304+n*1048576) (x*524288) 20 (by omega) (by omega) (by omega) (by omega)]
theorem orX (R:Bool) (i:Nat) (hi:i < 536870912) :
    bits BinOp.or IntKind.u64 (bits BinOp.or IntKind.u64 (bits BinOp.or IntKind.u64 (bits BinOp.or IntKind.u64 ((i:Int) / 262144*8388608) 4194304) 2097152) ((i:Int)%262144*8)) (IntKind.u64.wrap ((bitB R:Int)*4))=((keyX R i:Nat):Int):=by
 have h1:=bitB_le R
 rw[(wrapB R).2.2.2]
 unfold keyX
 generalize bitB R=r at *
 obtain⟨q,hq⟩:∃ q:Nat,q=i / 262144:=⟨_,rfl⟩
 obtain⟨m,hm⟩:∃ m:Nat,m=i%262144:=⟨_,rfl⟩
 obtain⟨c,hc⟩:∃ c:Nat,c=4194304:=⟨_,rfl⟩
 obtain⟨d,hd⟩:∃ d:Nat,d=2097152:=⟨_,rfl⟩
 have e0:(i:Int) / 262144*8388608=((q*8388608:Nat):Int):=by omega
 have e1:(i:Int)%262144*8=((m*8:Nat):Int):=by omega
 have e2:(4194304:Int)=(c:Int):=by omega
 have e3:(2097152:Int)=(d:Int):=by omega
 have o1:=or64 (q*8388608) c 23 (by omega) (by omega) (by omega) (by omega)
 have o2:=or64 (q*8388608+c) d 22 (by omega) (by omega) (by omega) (by omega)
 have o3:=or64 (q*8388608+c+d) (m*8) 21 (by omega) (by omega) (by omega) (by omega)
 have o4:=or64 (q*8388608+c+d+m*8) (r*4) 3 (by omega) (by omega) (by omega) (by omega)
 rw[e0,e1,e2,e3,o1,o2,o3,o4,<- hq,<- hm]
 have:q*8388608+c+d+m*8+r*4=q*8388608+6291456+m*8+r*4:=by omega
 rw[this]
theorem short_any (K:Int) (i:Nat) (X R B E S:Bool) (D V A:Int) (v:Value) (w:World) (hi:i < 2048) :
    Calls Tryd.prog 28 #[.agg #[.int .i64 K,.int .u32 (i:Nat),.bool X,.bool R,.bool B,.bool E,.bool S,.int .u8 D,.int .u8 V,.int .u32 A,v]] w fun e w'=>e = .returned (.int .u64 (keyS K R i:Nat))/\Nb w w':=by
 have HO:=Lib.hid (orS K R i hi)
 go_enter Tryd.func28,Tryd.ntmps28
 go_wp2_with fail
 go_quiet ((go_at_call 40;exact Calls.quiet_of_same (flag10_any _ _)))
 go_wp2
 go_ret
 exact⟨ret_int' HO.out,(Nb.rfl.al _).tr (Nb.drewN _ _)⟩
theorem long_any (K:Int) (i:Nat) (X R B E S:Bool) (D V A:Int) (v:Value) (w:World) (hi:i < 536870912) :
    Calls Tryd.prog 27 #[.agg #[.int .i64 K,.int .u32 (i:Nat),.bool X,.bool R,.bool B,.bool E,.bool S,.int .u8 D,.int .u8 V,.int .u32 A,v]] w fun e w'=>e = .returned (.int .u64 (keyX R i:Nat))/\Nb w w':=by
 have HO:=Lib.hid (orX R i hi)
 go_enter Tryd.func27,Tryd.ntmps27
 go_wp2_with fail
 go_quiet ((go_at_call 40;exact Calls.quiet_of_same (flag10_any _ _)))
 go_wp2
 go_ret
 exact⟨ret_int' HO.out,(Nb.rfl.al _).tr (Nb.drewN _ _)⟩
def AnsK (f:Hd) (l:List Nat) (e:Ending):Prop:=e = .returned (.tuple #[.int .u64 (keyV f l:Nat),.int .i64 (checkN f l:Nat)])
theorem key_any (f:Hd) (a:Option Addr) (cap:Nat) (l:List Nat) (w:World) (h:Bs w a cap l) (hI:0<=f.I) (hl:Longer w) :
    Calls Tryd.prog 15 #[.agg (f.cs (.slice a l.length cap))] w fun e w'=>AnsK f l e/\Nb w w':=by
 have hL:=h.len
 have F0:=Lib.hid (fun w' (n:Nb w w')=>check5_any f a cap l w' (h.below n) (hl.below n))
 unfold AnsK
 cases hok:okF f l with
 | false =>
   rw[show checkN f l=2 by simp[checkN,hok]] at F0 ⊢
   rw[show keyV f l=0 by simp[keyV,hok]]
   obtain⟨K,I,X,R,B,E,S,D,V,A⟩:=f
   simp only[Hd.cs] at F0 ⊢
   have Q0:=Lib.hid (Blk.new w #[.int .i64 K,.int .u32 I,.bool X,.bool R,.bool B,.bool E,.bool S,.int .u8 D,.int .u8 V,.int .u32 A,.slice a l.length cap] 37)
   clear h hl hok hI
   go_enter Tryd.func15,Tryd.ntmps15
   go_wp2_with fail
   refine (F0.out _ (Nb.rfl.al _)).mono ?_
   rintro e w1 ⟨rfl,n1⟩
   go_wp2
   go_ret2
   exact⟨rfl,(Nb.rfl.al _).tr n1⟩
 | true =>
   rw[show checkN f l=0 by simp[checkN,hok]] at F0 ⊢
   have hs:=shp_of hok hI
   rw[show keyV f l=keyF f by simp[keyV,hok]]
   obtain⟨K,I,X,R,B,E,S,D,V,A⟩:=f
   obtain⟨i,rfl⟩:=Int.eq_ofNat_of_zero_le hI
   simp only[Hd.cs] at F0 ⊢
   have Q0:=Lib.hid (Blk.new w #[.int .i64 K,.int .u32 (i:Nat),.bool X,.bool R,.bool B,.bool E,.bool S,.int .u8 D,.int .u8 V,.int .u32 A,.slice a l.length cap] 37)
   cases X with
   | false =>
     have hi:i < 2048:=by
      cases hs with
      | cl _ _ hi=>simpa using hi
      | cx _ hx _=>simp at hx
      | fd _ _ _ hi=>simpa using hi
      | xl _ _ _ hi=>simpa using hi
     have HS:=Lib.hid (fun w=>short_any K i false R B E S D V A (.slice a l.length cap) w hi)
     rw[show keyF ⟨K,(i:Nat),false,R,B,E,S,D,V,A⟩=keyS K R i by simp[keyF]]
     clear h hl hok hI hs hi
     go_enter Tryd.func15,Tryd.ntmps15
     go_wp2_with fail
     refine (F0.out _ (Nb.rfl.al _)).mono ?_
     rintro e w1 ⟨rfl,n1⟩
     have N1:=Lib.hid ((Nb.rfl.al _).tr n1)
     obtain⟨c0,c1,c2,c3,c4,c5,c6,c7,c8,c9,c10⟩:=(Q0.out.nb n1).c11
     clear n1
     go_wp2_with fail
     refine (HS.out _).mono ?_
     rintro e w2 ⟨rfl,n2⟩
     go_wp2
     go_ret2
     exact⟨rfl,N1.out.tr n2⟩
   | true =>
     have hi:i < 536870912:=by
      cases hs with
      | cx _ _ hi=>simpa using hi
      | cl _ hx _=>simp at hx
      | fd _ hx _ _=>simp at hx
      | xl _ hx _ _=>simp at hx
     have HS:=Lib.hid (fun w=>long_any K i true R B E S D V A (.slice a l.length cap) w hi)
     rw[show keyF ⟨K,(i:Nat),true,R,B,E,S,D,V,A⟩=keyX R i by simp[keyF]]
     clear h hl hok hI hs hi
     go_enter Tryd.func15,Tryd.ntmps15
     go_wp2_with fail
     refine (F0.out _ (Nb.rfl.al _)).mono ?_
     rintro e w1 ⟨rfl,n1⟩
     have N1:=Lib.hid ((Nb.rfl.al _).tr n1)
     obtain⟨c0,c1,c2,c3,c4,c5,c6,c7,c8,c9,c10⟩:=(Q0.out.nb n1).c11
     clear n1
     go_wp2_with fail
     refine (HS.out _).mono ?_
     rintro e w2 ⟨rfl,n2⟩
     go_wp2
     go_ret2
     exact⟨rfl,N1.out.tr n2⟩
end Go.Proofs.YtkofdbccdfpllaaDoor
namespace Go.Proofs.YtkofdbccdfpllaaDoor
set_option linter.unusedVariables false
set_option linter.unusedSimpArgs false
open Go.RowKit
def cmpN (m n:Nat):Int:=if m < n then -1 else if n < m then 1 else 0
def cmpV (f g:Hd) (l m:List Nat):Int:=if okF f l&&okF g m then cmpN (keyF f) (keyF g) else 0
def cmpE (f g:Hd) (l m:List Nat):Nat:=if okF f l&&okF g m then 0 else 2
def AnsC (f g:Hd) (l m:List Nat) (e:Ending):Prop:=e = .returned (.tuple #[.int .i64 (cmpV f g l m),.int .i64 (cmpE f g l m:Nat)])
theorem nan_any (m:Nat) (w:World):Calls Tryd.prog 29 #[.int .u64 (m:Nat)] w fun e w'=>e = .returned (.bool false)/\w'=w:=by
 have h:((m:Int) != (m:Int))=false:=by simp
 go_enter Tryd.func29,Tryd.ntmps29
 go_wp2
 go_ret
 exact⟨by simp,rfl⟩
theorem cmp_any (m n:Nat) (w:World):Calls Tryd.prog 16 #[.int .u64 (m:Nat),.int .u64 (n:Nat)] w fun e w'=>e = .returned (.int .i64 (cmpN m n))/\w'=w:=by
 unfold cmpN
 by_cases h1:m < n
 ·rw[if_pos h1]
  have d1:decide (m < n)=true:=decide_eq_true h1
  go_enter Tryd.func16,Tryd.ntmps16
  go_wp2_with (go_at_call 29;refine (nan_any _ _).mono ?_;rintro e w1 ⟨rfl,rfl⟩)
  go_ret
  exact⟨rfl,rfl⟩
 rw[if_neg h1]
 have d1:decide (m < n)=false:=decide_eq_false h1
 by_cases h2:n < m
 ·rw[if_pos h2]
  have d2:decide (n < m)=true:=decide_eq_true h2
  clear h1
  go_enter Tryd.func16,Tryd.ntmps16
  go_wp2_with (go_at_call 29;refine (nan_any _ _).mono ?_;rintro e w1 ⟨rfl,rfl⟩)
  go_ret
  exact⟨rfl,rfl⟩
 rw[if_neg h2]
 have d2:decide (n < m)=false:=decide_eq_false h2
 clear h1 h2
 go_enter Tryd.func16,Tryd.ntmps16
 go_wp2_with (go_at_call 29;refine (nan_any _ _).mono ?_;rintro e w1 ⟨rfl,rfl⟩)
 go_ret
 exact⟨rfl,rfl⟩
theorem compare_any (f g:Hd) (a a':Option Addr) (cap cap':Nat) (l m:List Nat) (w:World) (h:Bs w a cap l) (h':Bs w a' cap' m) (hI:0<=f.I) (hJ:0<=g.I) (hl:Longer w) :
    Calls Tryd.prog 11 #[.agg (f.cs (.slice a l.length cap)),.agg (g.cs (.slice a' m.length cap'))] w fun e w'=>AnsC f g l m e/\Nb w w':=by
 have hL:=h.len
 have hM:=h'.len
 have F1:=Lib.hid (fun w' (n:Nb w w')=>key_any f a cap l w' (h.below n) hI (hl.below n))
 have F2:=Lib.hid (fun w' (n:Nb w w')=>key_any g a' cap' m w' (h'.below n) hJ (hl.below n))
 unfold AnsC cmpV cmpE
 unfold AnsK keyV checkN at F1 F2
 clear h h' hl
 cases hf:okF f l with
 | false =>
   rw[hf] at F1
   simp only[Bool.false_eq_true,if_false,Bool.false_and] at F1 ⊢
   clear F2 hf hI hJ
   obtain⟨K,I,X,R,B,E,S,D,V,A⟩:=f
   obtain⟨K',I',X',R',B',E',S',D',V',A'⟩:=g
   simp only[Hd.cs] at F1 ⊢
   go_enter Tryd.func11,Tryd.ntmps11
   go_wp2_with fail
   refine (F1.out _ ((Nb.rfl.al _).al _)).mono ?_
   rintro e w1 ⟨rfl,n1⟩
   go_wp2
   go_ret2
   exact⟨rfl,((Nb.rfl.al _).al _).tr n1⟩
 | true =>
   rw[hf] at F1
   simp only[if_true,Bool.true_and] at F1 ⊢
   generalize keyF f=kf at *
   cases hg:okF g m with
   | false =>
     rw[hg] at F2
     simp only[Bool.false_eq_true,if_false] at F2 ⊢
     clear hf hg hI hJ
     obtain⟨K,I,X,R,B,E,S,D,V,A⟩:=f
     obtain⟨K',I',X',R',B',E',S',D',V',A'⟩:=g
     have Q:=Lib.hid (Blk.new (w.alloc (.cells #[.int .i64 K,.int .u32 I,.bool X,.bool R,.bool B,.bool E,.bool S,.int .u8 D,.int .u8 V,.int .u32 A,.slice a l.length cap] 37)) #[.int .i64 K',.int .u32 I',.bool X',.bool R',.bool B',.bool E',.bool S',.int .u8 D',.int .u8 V',.int .u32 A',.slice a' m.length cap'] 37)
     simp only[Hd.cs] at F1 F2 ⊢
     go_enter Tryd.func11,Tryd.ntmps11
     go_wp2_with fail
     refine (F1.out _ ((Nb.rfl.al _).al _)).mono ?_
     rintro e w1 ⟨rfl,n1⟩
     have q:=Q.out.nb n1
     rw[World.size_alloc] at q
     obtain⟨c0,c1,c2,c3,c4,c5,c6,c7,c8,c9,c10⟩:=q.c11
     have N1:=Lib.hid (((Nb.rfl.al _).al _).tr n1)
     clear n1 q
     go_wp2_with fail
     refine (F2.out _ N1.out).mono ?_
     rintro e w2 ⟨rfl,n2⟩
     go_wp2
     go_ret2
     exact⟨rfl,N1.out.tr n2⟩
   | true =>
     rw[hg] at F2
     simp only[if_true] at F2 ⊢
     generalize keyF g=kg at *
     clear hf hg hI hJ
     obtain⟨K,I,X,R,B,E,S,D,V,A⟩:=f
     obtain⟨K',I',X',R',B',E',S',D',V',A'⟩:=g
     have Q:=Lib.hid (Blk.new (w.alloc (.cells #[.int .i64 K,.int .u32 I,.bool X,.bool R,.bool B,.bool E,.bool S,.int .u8 D,.int .u8 V,.int .u32 A,.slice a l.length cap] 37)) #[.int .i64 K',.int .u32 I',.bool X',.bool R',.bool B',.bool E',.bool S',.int .u8 D',.int .u8 V',.int .u32 A',.slice a' m.length cap'] 37)
     simp only[Hd.cs] at F1 F2 ⊢
     go_enter Tryd.func11,Tryd.ntmps11
     go_wp2_with fail
     refine (F1.out _ ((Nb.rfl.al _).al _)).mono ?_
     rintro e w1 ⟨rfl,n1⟩
     have q:=Q.out.nb n1
     rw[World.size_alloc] at q
     obtain⟨c0,c1,c2,c3,c4,c5,c6,c7,c8,c9,c10⟩:=q.c11
     have N1:=Lib.hid (((Nb.rfl.al _).al _).tr n1)
     clear n1 q
     go_wp2_with fail
     refine (F2.out _ N1.out).mono ?_
     rintro e w2 ⟨rfl,n2⟩
     have N2:=Lib.hid (N1.out.tr n2)
     clear n2 c0 c1 c2 c3 c4 c5 c6 c7 c8 c9 c10
     go_wp2_with fail
     refine (cmp_any kf kg _).mono ?_
     rintro e w3 ⟨rfl,rfl⟩
     go_wp2
     go_ret2
     exact⟨rfl,N2.out⟩
end Go.Proofs.YtkofdbccdfpllaaDoor
namespace Go.Proofs.YtkofdbccdfpllaaDoor
set_option linter.unusedVariables false
set_option linter.unusedSimpArgs false
open Go.RowKit Go.ChangeShapes Go.WideShapes
abbrev dF:Hd × List Nat:=(⟨0,0,false,false,false,false,false,0,0,0⟩,[])
theorem wd_of {f:Hd} (h1:(Lit.int .u32 f.I).wf=true) (h2:(Lit.int .u8 f.D).wf=true) (h3:(Lit.int .u8 f.V).wf=true) (h4:(Lit.int .u32 f.A).wf=true):WdX f:=by
 simp[Lit.wf,IntKind.min,IntKind.max,IntKind.signed,IntKind.bits] at h1 h2 h3 h4
 unfold WdX
 omega
theorem list11 {α:Type} {cs:List α} (h:cs.length=11):∃ c0 c1 c2 c3 c4 c5 c6 c7 c8 c9 c10,cs=[c0,c1,c2,c3,c4,c5,c6,c7,c8,c9,c10]:=by
 match cs,h with
 | [c0,c1,c2,c3,c4,c5,c6,c7,c8,c9,c10],_=>exact⟨c0,c1,c2,c3,c4,c5,c6,c7,c8,c9,c10,rfl⟩
theorem frame_open {H:Type} {enc:TypeId × Value->H} {w:World} {fuel:Nat} {cs:List Value} {y:DataW H × List MemPlace} (hn:cs.length=11)
    (h:DataW.trod enc Tryd.prog w 0 (fun _=>true) true fuel 37 cs=some y) :
    ∃ (f:Hd) (l:List Nat) (a:Option Addr) (cap:Nat),cs=(f.cs (.slice a l.length cap)).toList/\WdX f/\(Lit.int .i64 f.K).wf=true/\Bs w a cap l/\(a=none->cap=0):=by
 obtain⟨c0,c1,c2,c3,c4,c5,c6,c7,c8,c9,c10,rfl⟩:=list11 hn
 obtain⟨m0,y0,g0⟩:=open_fld Tryd.underlying37 h 0 _ rfl
 have t0:DataW.trod enc Tryd.prog w 0 (fun _=>true) true m0 3 (([c0,c1,c2,c3,c4,c5,c6,c7,c8,c9,c10].drop 0).take (Tryd.prog.cellsOf 3))=some y0:=g0
 rw[show Tryd.prog.cellsOf 3=1 from by kernel_rfl] at t0
 have u0:DataW.trod enc Tryd.prog w 0 (fun _=>true) true m0 3 [c0]=some y0:=t0
 obtain⟨m1,y1,g1⟩:=open_fld Tryd.underlying37 h 1 _ rfl
 have t1:DataW.trod enc Tryd.prog w 0 (fun _=>true) true m1 34 (([c0,c1,c2,c3,c4,c5,c6,c7,c8,c9,c10].drop 1).take (Tryd.prog.cellsOf 34))=some y1:=g1
 rw[show Tryd.prog.cellsOf 34=1 from by kernel_rfl] at t1
 have u1:DataW.trod enc Tryd.prog w 0 (fun _=>true) true m1 34 [c1]=some y1:=t1
 obtain⟨m2,y2,g2⟩:=open_fld Tryd.underlying37 h 2 _ rfl
 have t2:DataW.trod enc Tryd.prog w 0 (fun _=>true) true m2 4 (([c0,c1,c2,c3,c4,c5,c6,c7,c8,c9,c10].drop 2).take (Tryd.prog.cellsOf 4))=some y2:=g2
 rw[show Tryd.prog.cellsOf 4=1 from by kernel_rfl] at t2
 have u2:DataW.trod enc Tryd.prog w 0 (fun _=>true) true m2 4 [c2]=some y2:=t2
 obtain⟨m3,y3,g3⟩:=open_fld Tryd.underlying37 h 3 _ rfl
 have t3:DataW.trod enc Tryd.prog w 0 (fun _=>true) true m3 4 (([c0,c1,c2,c3,c4,c5,c6,c7,c8,c9,c10].drop 3).take (Tryd.prog.cellsOf 4))=some y3:=g3
 rw[show Tryd.prog.cellsOf 4=1 from by kernel_rfl] at t3
 have u3:DataW.trod enc Tryd.prog w 0 (fun _=>true) true m3 4 [c3]=some y3:=t3
 obtain⟨m4,y4,g4⟩:=open_fld Tryd.underlying37 h 4 _ rfl
 have t4:DataW.trod enc Tryd.prog w 0 (fun _=>true) true m4 4 (([c0,c1,c2,c3,c4,c5,c6,c7,c8,c9,c10].drop 4).take (Tryd.prog.cellsOf 4))=some y4:=g4
 rw[show Tryd.prog.cellsOf 4=1 from by kernel_rfl] at t4
 have u4:DataW.trod enc Tryd.prog w 0 (fun _=>true) true m4 4 [c4]=some y4:=t4
 obtain⟨m5,y5,g5⟩:=open_fld Tryd.underlying37 h 5 _ rfl
 have t5:DataW.trod enc Tryd.prog w 0 (fun _=>true) true m5 4 (([c0,c1,c2,c3,c4,c5,c6,c7,c8,c9,c10].drop 5).take (Tryd.prog.cellsOf 4))=some y5:=g5
 rw[show Tryd.prog.cellsOf 4=1 from by kernel_rfl] at t5
 have u5:DataW.trod enc Tryd.prog w 0 (fun _=>true) true m5 4 [c5]=some y5:=t5
 obtain⟨m6,y6,g6⟩:=open_fld Tryd.underlying37 h 6 _ rfl
 have t6:DataW.trod enc Tryd.prog w 0 (fun _=>true) true m6 4 (([c0,c1,c2,c3,c4,c5,c6,c7,c8,c9,c10].drop 6).take (Tryd.prog.cellsOf 4))=some y6:=g6
 rw[show Tryd.prog.cellsOf 4=1 from by kernel_rfl] at t6
 have u6:DataW.trod enc Tryd.prog w 0 (fun _=>true) true m6 4 [c6]=some y6:=t6
 obtain⟨m7,y7,g7⟩:=open_fld Tryd.underlying37 h 7 _ rfl
 have t7:DataW.trod enc Tryd.prog w 0 (fun _=>true) true m7 5 (([c0,c1,c2,c3,c4,c5,c6,c7,c8,c9,c10].drop 7).take (Tryd.prog.cellsOf 5))=some y7:=g7
 rw[show Tryd.prog.cellsOf 5=1 from by kernel_rfl] at t7
 have u7:DataW.trod enc Tryd.prog w 0 (fun _=>true) true m7 5 [c7]=some y7:=t7
 obtain⟨m8,y8,g8⟩:=open_fld Tryd.underlying37 h 8 _ rfl
 have t8:DataW.trod enc Tryd.prog w 0 (fun _=>true) true m8 5 (([c0,c1,c2,c3,c4,c5,c6,c7,c8,c9,c10].drop 8).take (Tryd.prog.cellsOf 5))=some y8:=g8
 rw[show Tryd.prog.cellsOf 5=1 from by kernel_rfl] at t8
 have u8:DataW.trod enc Tryd.prog w 0 (fun _=>true) true m8 5 [c8]=some y8:=t8
 obtain⟨m9,y9,g9⟩:=open_fld Tryd.underlying37 h 9 _ rfl
 have t9:DataW.trod enc Tryd.prog w 0 (fun _=>true) true m9 34 (([c0,c1,c2,c3,c4,c5,c6,c7,c8,c9,c10].drop 9).take (Tryd.prog.cellsOf 34))=some y9:=g9
 rw[show Tryd.prog.cellsOf 34=1 from by kernel_rfl] at t9
 have u9:DataW.trod enc Tryd.prog w 0 (fun _=>true) true m9 34 [c9]=some y9:=t9
 obtain⟨m10,y10,g10⟩:=open_fld Tryd.underlying37 h 10 _ rfl
 have t10:DataW.trod enc Tryd.prog w 0 (fun _=>true) true m10 35 (([c0,c1,c2,c3,c4,c5,c6,c7,c8,c9,c10].drop 10).take (Tryd.prog.cellsOf 35))=some y10:=g10
 rw[show Tryd.prog.cellsOf 35=1 from by kernel_rfl] at t10
 have u10:DataW.trod enc Tryd.prog w 0 (fun _=>true) true m10 35 [c10]=some y10:=t10
 obtain⟨K,e0,x0,w0⟩:=DataW.trod_int Tryd.underlying3 u0
 obtain rfl:c0 = .int .i64 K:=by simpa using e0
 obtain⟨I,e1,x1,w1⟩:=DataW.trod_int Tryd.underlying34 u1
 obtain rfl:c1 = .int .u32 I:=by simpa using e1
 obtain⟨X,e2,x2⟩:=DataW.trod_bool Tryd.underlying4 u2
 obtain rfl:c2 = .bool X:=by simpa using e2
 obtain⟨R,e3,x3⟩:=DataW.trod_bool Tryd.underlying4 u3
 obtain rfl:c3 = .bool R:=by simpa using e3
 obtain⟨B,e4,x4⟩:=DataW.trod_bool Tryd.underlying4 u4
 obtain rfl:c4 = .bool B:=by simpa using e4
 obtain⟨E,e5,x5⟩:=DataW.trod_bool Tryd.underlying4 u5
 obtain rfl:c5 = .bool E:=by simpa using e5
 obtain⟨S,e6,x6⟩:=DataW.trod_bool Tryd.underlying4 u6
 obtain rfl:c6 = .bool S:=by simpa using e6
 obtain⟨D,e7,x7,w7⟩:=DataW.trod_int Tryd.underlying5 u7
 obtain rfl:c7 = .int .u8 D:=by simpa using e7
 obtain⟨V,e8,x8,w8⟩:=DataW.trod_int Tryd.underlying5 u8
 obtain rfl:c8 = .int .u8 V:=by simpa using e8
 obtain⟨A,e9,x9,w9⟩:=DataW.trod_int Tryd.underlying34 u9
 obtain rfl:c9 = .int .u32 A:=by simpa using e9
 obtain⟨a,cap,l,e10,hb,hnn⟩:=bytes_open u10
 subst e10
 exact⟨⟨K,I,X,R,B,E,S,D,V,A⟩,l,a,cap,rfl,wd_of w1 w7 w8 w9,w0,hb,hnn⟩
structure FrsAt (w:World) (a:Option Addr) (cap:Nat) (fs:List (Hd × List Nat)):Prop where
 hcap:fs.length<=cap
 hmax:cap<=maxLen
 hcells:0 < fs.length->∃ b o,a=some ⟨b,o,none⟩/\∀ j,j < fs.length->∃ a' c',(∀ i u,((fs.getD j dF).1.cs (.slice a' (fs.getD j dF).2.length c')).toList[i]? = some u->w.cell? ⟨b,o+j*11+i,none⟩=some u)/\WdX (fs.getD j dF).1/\(Lit.int .i64 (fs.getD j dF).1.K).wf=true/\Bs w a' c' (fs.getD j dF).2/\(a'=none->c'=0)
theorem FrsAt.nil (w:World):FrsAt w none 0 []:=⟨Nat.le_refl _,by simp[maxLen],by simp⟩
theorem FrsAt.len {w:World} {a:Option Addr} {cap:Nat} {fs:List (Hd × List Nat)} (h:FrsAt w a cap fs):fs.length<=9223372036854775807:=by
 have h1:=h.hcap
 have h2:=h.hmax
 unfold maxLen at h2
 omega
theorem FrsAt.below {w w':World} {a:Option Addr} {cap:Nat} {fs:List (Hd × List Nat)} (h:FrsAt w a cap fs) (hb:Nb w w'):FrsAt w' a cap fs:=by
 refine⟨h.hcap,h.hmax,fun hl => ?_⟩
 obtain⟨b,o,ha,hc⟩:=h.hcells hl
 refine⟨b,o,ha,fun j hj => ?_⟩
 obtain⟨a',c',h1,h2,h3,h4,h5⟩:=hc j hj
 exact⟨a',c',fun i u hu=>by
  have:=h1 i u hu
  rw[hb.cell (p:=⟨b,o+j*11+i,none⟩) (World.block_lt_of_cell? _ _ this)]
  exact this,h2,h3,h4.below hb,h5⟩
theorem FrsAt.at {w:World} {b o cap:Nat} {fs:List (Hd × List Nat)} (h:FrsAt w (some ⟨b,o,none⟩) cap fs) {j:Nat} (hj:j < fs.length) {K I:Int} {X R B E S:Bool} {D V A:Int} {l:List Nat} (hf:fs.getD j dF=(⟨K,I,X,R,B,E,S,D,V,A⟩,l)) :
    ∃ a' c',(w.cell? ⟨b,o+j*11,none⟩=some (.int .i64 K)/\w.cell? ⟨b,o+j*11+1,none⟩=some (.int .u32 I)/\w.cell? ⟨b,o+j*11+2,none⟩=some (.bool X)/\w.cell? ⟨b,o+j*11+3,none⟩=some (.bool R)/\w.cell? ⟨b,o+j*11+4,none⟩=some (.bool B)/\w.cell? ⟨b,o+j*11+5,none⟩=some (.bool E)/\w.cell? ⟨b,o+j*11+6,none⟩=some (.bool S)/\w.cell? ⟨b,o+j*11+7,none⟩=some (.int .u8 D)/\w.cell? ⟨b,o+j*11+8,none⟩=some (.int .u8 V)/\w.cell? ⟨b,o+j*11+9,none⟩=some (.int .u32 A)/\w.cell? ⟨b,o+j*11+10,none⟩=some (.slice a' l.length c')) /\
     WdX ⟨K,I,X,R,B,E,S,D,V,A⟩/\(Lit.int .i64 K).wf=true/\Bs w a' c' l/\(a'=none->c'=0):=by
 obtain⟨b',o',e,hc⟩:=h.hcells (by omega)
 simp only[Option.some.injEq,Addr.mk.injEq,and_true] at e
 obtain⟨rfl,rfl⟩:=e
 obtain⟨a',c',h1,h2,h3,h4,h5⟩:=hc j hj
 rw[hf] at h1 h2 h3 h4
 exact⟨a',c',⟨h1 0 _ rfl,h1 1 _ rfl,h1 2 _ rfl,h1 3 _ rfl,h1 4 _ rfl,h1 5 _ rfl,h1 6 _ rfl,h1 7 _ rfl,h1 8 _ rfl,h1 9 _ rfl,h1 10 _ rfl⟩,h2,h3,h4,h5⟩
theorem frames_open {H:Type} {enc:TypeId × Value->H} {w:World} {fuel:Nat} {v:Value} {y:DataW H × List MemPlace}
    (h:DataW.trod enc Tryd.prog w 0 (fun _=>true) true fuel 22 [v]=some y) :
    ∃ a cap fs,v = .slice a (List.length fs) cap/\FrsAt w a cap fs/\(a=none->cap=0):=by
 rcases Go.Deep.open_slice Tryd.underlying22 h with ⟨hcs,_⟩ | ⟨a,len,cap,m,n,D,Pl,hcs,_,hl,hm,hmm,_,hx⟩
 ·exact⟨none,0,[],by simpa using hcs,FrsAt.nil w,fun _=>rfl⟩
 rw[show Tryd.prog.cellsOf 37=11 from by kernel_rfl] at hx
 have hle:len<=m:=by rw[hmm];split<;>omega
 have hk:∀ j,j < len->∃ p:Hd × List Nat,∃ a' c',(∀ i u,(p.1.cs (.slice a' p.2.length c')).toList[i]? = some u->w.cell? ((a.add (j*11)).add i)=some u)/\WdX p.1/\(Lit.int .i64 p.1.K).wf=true/\Bs w a' c' p.2/\(a'=none->c'=0):=by
  intro j hj
  obtain⟨cs,h1,h2⟩:=hx j (by omega)
  obtain⟨_,hlen,hcell⟩:=World.cells?_some h1
  obtain⟨f,l,a',c',rfl,hw,hK,hb,hnn⟩:=frame_open hlen h2
  refine⟨(f,l),a',c',fun i u hu => ?_,hw,hK,hb,hnn⟩
  have hi:i < 11:=by rw[<- hlen];exact (List.getElem?_eq_some_iff.1 hu).1
  rw[hcell i hi]
  exact hu
 haveI:Inhabited (Hd × List Nat):=⟨dF⟩
 obtain⟨g,hg⟩:=Go.Deep.choose_lt hk
 refine⟨some a,cap,(List.range len).map g,by simpa using hcs,⟨by simpa using hl,hm,fun h0 => ?_⟩,fun h=>by cases h⟩
 simp only[List.length_map,List.length_range] at h0 ⊢
 obtain⟨b,o,s⟩:=a
 have hs:s=none:=by
  obtain⟨a',c',h1,_⟩:=hg 0 h0
  have:=h1 0 _ rfl
  simpa [Addr.add] using World.cell?_spot this
 subst hs
 refine⟨b,o,rfl,fun j hj => ?_⟩
 have e:((List.range len).map g).getD j dF=g j:=by simp[List.getD,hj]
 rw[e]
 obtain⟨a',c',h1,h2,h3,h4,h5⟩:=hg j hj
 refine⟨a',c',fun i u hu => ?_,h2,h3,h4,h5⟩
 have:=h1 i u hu
 rwa[Addr.add_lit,Addr.add_lit] at this
end Go.Proofs.YtkofdbccdfpllaaDoor
