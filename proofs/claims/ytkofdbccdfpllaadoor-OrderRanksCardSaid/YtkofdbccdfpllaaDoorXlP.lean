
/- The bits of an XL frame as lists: its data part, and on the wire. No conditions but the fields' own widths. -/
import Derived.Test.YtkofdbccdfpllaaDoorWir
namespace Go.Proofs.YtkofdbccdfpllaaDoor
set_option linter.unusedVariables false
set_option linter.unusedSimpArgs false
open Go.RowKit
def headX (i:Nat):List Nat:=[0]++(bitsN i 11++[0,0,1,1,0])
def tallyX (i:Nat):List Nat:=tallyL ((putL (headX i)).length - (headX i).length)
def preX (i d n:Nat) (S:Bool):List Nat:=bitsN d 8++([bitB S]++(bitsN (n - 1) 11++tallyX i))
def pre2X (i d v a:Nat) (S:Bool) (l:List Nat):List Nat:=(preX i d l.length S++sumC 4 (headX i++preX i d l.length S))++(bitsN v 8++(bitsN a 32++bytesBits l))
def bodyX (i d v a:Nat) (S:Bool) (l:List Nat):List Nat:=pre2X i d v a S l++sumC 5 (pre2X i d v a S l)
def startX:List Nat:=[1,0,0,1]
def stopX:List Nat:=[0,1,1,0]
def okX (f:Hd) (l:List Nat):Bool:=f.K==3&&okF f l
def bxC (f:Hd) (l:List Nat):List Nat:=if okX f l then bodyX f.I.toNat f.D.toNat f.V.toNat f.A.toNat f.S l else []
def okXE (f:Hd) (l:List Nat):Nat:=if okX f l then 0 else 2
def rwX (f:Hd) (l:List Nat):List Nat:=((putL (headX f.I.toNat)++startX)++fxPut 8 false 1 (bxC f l))++stopX
def wxC (f:Hd) (l:List Nat):List Nat:=if okX f l then rwX f l++ones 10 else []
def wArbX (f:Hd) (l:List Nat):Nat:=if okX f l then (putL (headX f.I.toNat)).length else 0
def wAckX (f:Hd) (l:List Nat):Nat:=if okX f l then (rwX f l).length+1 else 0
theorem headX_len (i:Nat):(headX i).length=17:=by simp[headX,bitsN_length]
theorem headX_bit (i:Nat):∀ x∈headX i,x<=1:=by
 intro x hx
 unfold headX at hx
 simp only[List.mem_append,List.mem_cons,List.not_mem_nil,or_false] at hx
 rcases hx with rfl | hx | (rfl | rfl | rfl | rfl | rfl)
 ·omega
 ·exact bitsN_le _ _ x hx
 all_goals omega
theorem preX_len (i d n:Nat) (S:Bool):(preX i d n S).length=24:=by
 rw[preX,List.length_append,List.length_append,List.length_append,bitsN_length,bitsN_length,tallyX,tallyL_len]
 rfl
theorem preX_bit (i d n:Nat) (S:Bool):∀ x∈preX i d n S,x<=1:=by
 intro x hx
 have h1:=bitB_le S
 unfold preX at hx
 simp only[List.mem_append,List.mem_cons,List.not_mem_nil,or_false] at hx
 rcases hx with hx | rfl | hx | hx
 ·exact bitsN_le _ _ x hx
 ·exact h1
 ·exact bitsN_le _ _ x hx
 ·exact tallyL_bit _ x hx
theorem pre2X_len (i d v a:Nat) (S:Bool) (l:List Nat):(pre2X i d v a S l).length=77+8*l.length:=by
 rw[pre2X,List.length_append,List.length_append,List.length_append,List.length_append,preX_len,sumC_len,bitsN_length,bitsN_length,bytesBits_len]
 have:szK 4=13:=by decide
 omega
theorem pre2X_bit (i d v a:Nat) (S:Bool) (l:List Nat):∀ x∈pre2X i d v a S l,x<=1:=by
 intro x hx
 unfold pre2X at hx
 simp only[List.mem_append] at hx
 rcases hx with (hx | hx) | hx | hx | hx
 ·exact preX_bit _ _ _ _ x hx
 ·exact bitsN_le _ _ x hx
 ·exact bitsN_le _ _ x hx
 ·exact bitsN_le _ _ x hx
 ·exact bytesBits_bit l x hx
theorem bodyX_len (i d v a:Nat) (S:Bool) (l:List Nat):(bodyX i d v a S l).length=109+8*l.length:=by
 rw[bodyX,List.length_append,pre2X_len,sumC_len]
 have:szK 5=32:=by decide
 omega
theorem bodyX_bit (i d v a:Nat) (S:Bool) (l:List Nat):∀ x∈bodyX i d v a S l,x<=1:=by
 intro x hx
 rcases List.mem_append.1 hx with h | h
 ·exact pre2X_bit _ _ _ _ _ _ x h
 ·exact bitsN_le _ _ x h
theorem has3 {n:Nat} (h:hasF 3 (n:Int)=true):1<=n/\n<=2048:=by
 obtain⟨h1,h2⟩:=(hasF_iff 3 _).1 h
 have h3:fitF 3 (n:Int) < 2048:=h1
 rw[at3] at h2
 omega
theorem okX_parts {f:Hd} {l:List Nat} (h:okX f l=true) (hI:0<=f.I) :
    ∃ i:Nat,f=⟨3,(i:Int),false,false,false,false,f.S,f.D,f.V,f.A⟩/\f.I.toNat=i/\1<=l.length/\l.length<=2048/\i < 2048:=by
 obtain⟨K,I,X,R,B,E,S,D,V,A⟩:=f
 simp only[okX,Bool.and_eq_true,beq_iff_eq] at h
 obtain⟨rfl,h⟩:=h
 rw[okF_xl] at h
 simp only[okXl,Bool.and_eq_true,Bool.not_eq_true',decide_eq_true_eq] at h
 obtain⟨hh,hi,rfl,rfl,rfl,rfl⟩:=h
 obtain⟨i,rfl⟩:=Int.eq_ofNat_of_zero_le (show 0<=I from hI)
 have:=has3 hh
 exact⟨i,by simp,by simp,this.1,this.2,by omega⟩
theorem lenX {f:Hd} {l:List Nat} (h:okX f l=true):1<=l.length/\l.length<=2048:=by
 simp only[okX,okF,Bool.and_eq_true,beq_iff_eq] at h
 rw[h.1] at h
 exact has3 h.2.1
theorem bx_len {f:Hd} {l:List Nat} (h:okX f l=true):(bxC f l).length=109+8*l.length:=by rw[bxC,if_pos h,bodyX_len]
theorem bx_bit {f:Hd} {l:List Nat}:∀ x∈bxC f l,x<=1:=by
 unfold bxC
 split
 ·exact bodyX_bit _ _ _ _ _ _
 ·simp
theorem hs_last (i:Nat):lastB (putL (headX i)++startX)=1/\(runS (putL (headX i)++startX)).2=1:=by
 rw[show putL (headX i)++startX=((putL (headX i)++[1,0])++[0])++[1] by simp[startX]]
 exact⟨lastB_snoc _ _,runS_other (by rw[lastB_snoc];omega)⟩
theorem hs_bit (i:Nat):∀ x∈putL (headX i)++startX,x<=1:=by
 intro x hx
 rcases List.mem_append.1 hx with h | h
 ·exact putL_bit (headX_bit i) x h
 ·simp[startX] at h
  omega
theorem grow_run {b:Nat} {Y:List Nat} {z:Nat} (h1:∀ k,(runS (Y.take k)).2<=b) (h2:(runS (Y++[z])).2<=b):∀ k,(runS ((Y++[z]).take k)).2<=b:=by
 intro k
 rcases Nat.lt_or_ge Y.length k with hk | hk
 ·rw[List.take_of_length_le (by simp;omega)];exact h2
 ·rw[List.take_append_of_le_length hk];exact h1 k
theorem grow_take {b:Nat} {Y:List Nat} (h1:∀ k,(runS (Y.take k)).2<=b) {c:Nat} (hc:b<=c):∀ k,(runS (Y.take k)).2<=c:=fun k=>Nat.le_trans (h1 k) hc
theorem hs_runs (i:Nat):∀ k,(runS ((putL (headX i)++startX).take k)).2<=9:=by
 have h0:∀ k,(runS ((putL (headX i)).take k)).2<=9:=grow_take (fun k=>okS_run (okS_take (okS_putL (headX_bit i)) k)) (by omega)
 have h5:=okS_run (okS_putL (headX_bit i))
 have r1:=(runS_any (putL (headX i)) 1).1
 have r2:=(runS_any (putL (headX i)++[1]) 0).1
 have r3:=(runS_any (putL (headX i)++[1]++[0]) 0).1
 have r4:=(runS_any (putL (headX i)++[1]++[0]++[0]) 1).1
 rw[show putL (headX i)++startX=putL (headX i)++[1]++[0]++[0]++[1] by simp[startX]]
 exact grow_run (grow_run (grow_run (grow_run h0 (by omega)) (by omega)) (by omega)) (by omega)
theorem rx_runs {f:Hd} {l:List Nat} (h:okX f l=true):∀ k,(runS ((rwX f l).take k)).2<=9:=by
 obtain⟨h1,h2⟩:=hs_last f.I.toNat
 have hb:=bx_len h
 have hl:=lenX h
 obtain⟨g1,g2⟩:=fx_runs (E:=8) (b:=9) (A:=false) (by omega) (by omega) (hs_runs f.I.toNat) (by omega) (.inr (by omega)) (bx_bit (f:=f) (l:=l))
 rw[h1] at g1 g2
 have hr:runF 8 false (runS (putL (headX f.I.toNat)++startX)).2 (bxC f l).length=6:=by
  rw[hb]
  unfold runF
  rw[if_neg (by omega),if_pos (.inr (by omega))]
  omega
 rw[hr] at g1
 unfold rwX
 generalize (putL (headX f.I.toNat)++startX)++fxPut 8 false 1 (bxC f l)=X at *
 have r1:=(runS_any X 0).1
 have e2:(runS (X++[0]++[1])).2=1:=runS_other (by rw[lastB_snoc];omega)
 have r3:=(runS_any (X++[0]++[1]) 1).1
 have r4:=(runS_any (X++[0]++[1]++[1]) 0).1
 rw[show X++stopX=X++[0]++[1]++[1]++[0] by simp[stopX]]
 exact grow_run (grow_run (grow_run (grow_run g2 (by omega)) (by omega)) (by omega)) (by omega)
theorem rx_last (f:Hd) (l:List Nat):(runS (rwX f l)).2=1:=by
 rw[show rwX f l=((putL (headX f.I.toNat)++startX)++fxPut 8 false 1 (bxC f l)++[0,1])++[1]++[0] by simp[rwX,stopX]]
 exact runS_other (by rw[lastB_snoc];omega)
theorem rx_len (f:Hd) (l:List Nat):(rwX f l).length=(putL (headX f.I.toNat)).length+8+szF 8 false (bxC f l).length:=by
 rw[rwX,List.length_append,List.length_append,List.length_append,fxPut_len]
 simp[startX,stopX]
 omega
theorem rx_bit (f:Hd) (l:List Nat):∀ x∈rwX f l,x<=1:=by
 intro x hx
 unfold rwX at hx
 rcases List.mem_append.1 hx with hx | hx
 ·rcases List.mem_append.1 hx with hx | hx
  ·exact hs_bit _ x hx
  ·exact fxPut_bit bx_bit x hx
 ·simp[stopX] at hx
  omega
theorem wx_ends {f:Hd} {l:List Nat} (h:okX f l=true):∃ P:Nat,P=(rwX f l).length/\chk (wxC f l)=true/\(wxC f l).length=P+10/\34<=P/\P<=50000/\(wxC f l).getD 0 0=0 /\
    wAckX f l=P+1/\12<=wArbX f l/\wArbX f l+9<=P/\10<=(runS (wxC f l)).2/\(∀ k,k<=P->(runS ((wxC f l).take k)).2<=9)/\(∀ k,k<=wArbX f l->(runS ((wxC f l).take k)).2<=5)/\(runS ((wxC f l).take P)).2=1:=by
 have hb:=bx_len h
 have hl:=lenX h
 have h2:=putL_len2 (headX f.I.toNat)
 rw[headX_len] at h2
 have hr:=rx_len f l
 rw[hb] at hr
 have hz:szF 8 false (109+8*l.length)<=20000/\109<=szF 8 false (109+8*l.length):=by
  unfold szF
  rw[if_neg (by omega)]
  constructor
  ·simp only[Bool.toNat_false];omega
  ·omega
 have hw:(wxC f l).length=(rwX f l).length+10:=by rw[wxC,if_pos h,List.length_append,ones_len]
 refine⟨_,rfl,?_,hw,by omega,by omega,?_,by rw[wAckX,if_pos h],by rw[wArbX,if_pos h];omega,by rw[wArbX,if_pos h];omega,?_,?_,?_,?_⟩
 ·refine chk_of (fun x hx => ?_) (by rw[hw];omega)
  rw[wxC,if_pos h] at hx
  rcases List.mem_append.1 hx with h1 | h1
  ·exact rx_bit f l x h1
  ·exact ones_bit _ x h1
 ·have h0:0 < (headX f.I.toNat).length:=by rw[headX_len];omega
  have hq:=(put_getD h0 (p:=0) (by simp[putL_nil,full_nil])).2.1
  rw[wxC,if_pos h,rwX,List.append_assoc,List.append_assoc,List.append_assoc,List.getD,List.getElem?_append_left (by omega),<- List.getD,hq]
  simp[headX]
 ·rw[wxC,if_pos h]
  by_cases h10:0 < 10
  ·exact (runS_ones _ 10 h10).1
  ·omega
 ·intro k hk
  rw[wxC,if_pos h,List.take_append_of_le_length hk]
  exact rx_runs h k
 ·intro k hk
  rw[wArbX,if_pos h] at hk
  rw[wxC,if_pos h,rwX,List.append_assoc,List.append_assoc,List.append_assoc,List.take_append_of_le_length hk]
  exact okS_run (okS_take (okS_putL (headX_bit _)) k)
 ·rw[wxC,if_pos h,List.take_left]
  exact rx_last f l
theorem headX_less (i j:Nat) (hij:i < j) (hj:j < 2048):Less (headX i) (headX j):=by
 unfold headX
 exact ((bitsN_less 11 i j hij (by omega)).post _ _).pre _
theorem wx_order {f:Hd} {l:List Nat} {i j:Nat} (hf:okX { f with I:=(i:Int) } l=true) (hg:okX { f with I:=(j:Int) } l=true) (h:i≠j) :
    ∃ d,d < wArbX { f with I:=(i:Int) } l/\d < wArbX { f with I:=(j:Int) } l/\(∀ k,k < d->(wxC { f with I:=(i:Int) } l).getD k 0=(wxC { f with I:=(j:Int) } l).getD k 0) /\
     ((i < j/\(wxC { f with I:=(i:Int) } l).getD d 0=0/\(wxC { f with I:=(j:Int) } l).getD d 0=1)\/(j < i/\(wxC { f with I:=(i:Int) } l).getD d 0=1/\(wxC { f with I:=(j:Int) } l).getD d 0=0)):=by
 obtain⟨i',_,ei,_,_,bi⟩:=okX_parts hf (Int.natCast_nonneg i)
 obtain⟨j',_,ej,_,_,bj⟩:=okX_parts hg (Int.natCast_nonneg j)
 simp only[Int.toNat_natCast] at ei ej
 subst ei
 subst ej
 have key:∀ (k:Nat),okX { f with I:=(k:Int) } l=true->∃ X,wxC { f with I:=(k:Int) } l=putL (headX k++[])++X/\wArbX { f with I:=(k:Int) } l=(putL (headX k)).length:=by
  intro k hk
  have e1:wxC { f with I:=(k:Int) } l=putL (headX k++[])++(startX++(fxPut 8 false 1 (bxC { f with I:=(k:Int) } l)++(stopX++ones 10))):=by
   simp only[wxC,hk,if_true,rwX,Int.toNat_natCast,List.append_nil,List.append_assoc]
  exact⟨_,e1,by simp only[wArbX,hk,if_true,Int.toNat_natCast]⟩
 obtain⟨X,y1,y2⟩:=key i hf
 obtain⟨X',z1,z2⟩:=key j hg
 rw[y1,y2,z1,z2]
 rcases Nat.lt_or_gt_of_ne h with h | h
 ·obtain⟨d,h1,h2,h3,h4,h5⟩:=wire_less_gen (T:=[]) (T':=[]) (X:=X) (X':=X') (headX_less i j h bj)
  exact⟨d,h1,h2,h3,.inl ⟨h,h4,h5⟩⟩
 ·obtain⟨d,h1,h2,h3,h4,h5⟩:=wire_less_gen (T:=[]) (T':=[]) (X:=X') (X':=X) (headX_less j i h bi)
  exact⟨d,h2,h1,fun k hk=>(h3 k hk).symm,.inr ⟨h,h5,h4⟩⟩
theorem fxPut_take (E:Nat) (A:Bool) (p:Nat) (l:List Nat) (k:Nat):∃ Y,fxPut E A p l=fxPut E A p (l.take k)++Y:=by
 have key:∀ m:List Nat,∃ Y,fxPut E A p (l.take k++m)=fxPut E A p (l.take k)++Y:=by
  intro m
  refine snocInd (P:=fun m=>∃ Y,fxPut E A p (l.take k++m)=fxPut E A p (l.take k)++Y) ⟨[],by simp⟩ ?_ m
  rintro m b ⟨Y,hY⟩
  rw[<- List.append_assoc,fxPut_snoc]
  split
  ·exact⟨Y++[1 - lastP p (fxPut E A p (l.take k++m)),b],by rw[<- List.append_assoc,<- hY]⟩
  ·exact⟨Y++[b],by rw[<- List.append_assoc,<- hY]⟩
 have:=key (l.drop k)
 rwa[List.take_append_drop] at this
theorem fx_peel {E:Nat} {A:Bool} {p:Nat} (hp:p<=1) {a b x y:List Nat} (ha:∀ z∈a,z<=1) (hb:∀ z∈b,z<=1) (h:Pc (fxPut E A p a++x) (fxPut E A p b++y)):Pc a b:=by
 have key:∀ {a b x y:List Nat},(∀ z∈a,z<=1)->(∀ z∈b,z<=1)->Pc (fxPut E A p a++x) (fxPut E A p b++y)->a.length<=b.length->Pc a b:=by
  intro a b x y ha hb h hl
  obtain⟨Y,hY⟩:=fxPut_take E A p b a.length
  rw[hY,List.append_assoc] at h
  have hlen:(fxPut E A p a).length=(fxPut E A p (b.take a.length)).length:=by rw[fxPut_len,fxPut_len,List.length_take,Nat.min_eq_left hl]
  have e:=(h.peel hlen).1
  have t1:=(fg_put (E:=E) (A:=A) hp ha).1
  have t2:=(fg_put (E:=E) (A:=A) hp (l:=b.take a.length) (fun z hz=>hb z (List.mem_of_mem_take hz))).1
  rw[e,t2] at t1
  exact⟨b.drop a.length,[],by rw[List.append_nil];exact (congrArg (·++b.drop a.length) t1.symm).trans (List.take_append_drop _ _)⟩
 rcases Nat.le_total a.length b.length with hl | hl
 ·exact key ha hb h hl
 ·exact (key hb ha h.sym hl).sym
theorem Pc.all {A B:List Nat} (h:Pc A B) (hl:A.length=B.length):A=B:=by
 obtain⟨X,Y,h⟩:=h
 exact (List.append_inj h hl).1
def WdX (f:Hd):Prop:=0<=f.I/\0<=f.D/\f.D < 256/\0<=f.V/\f.V < 256/\0<=f.A/\f.A < 4294967296
theorem wx_apart {f g:Hd} {l l':List Nat} (hf:okX f l=true) (hg:okX g l'=true) (hI:WdX f) (hJ:WdX g) (hb:∀ x∈l,x < 256) (hb':∀ x∈l',x < 256) :
    ((wxC f l).take (min (wxC f l).length (wxC g l').length)=(wxC g l').take (min (wxC f l).length (wxC g l').length))↔sameF f g l l'=true:=by
 constructor
 ·intro h
  have hp:=pc_of_take (by omega) h
  obtain⟨i,ef,et,el1,el2,ei⟩:=okX_parts hf hI.1
  obtain⟨j,eg,et',el1',el2',ei'⟩:=okX_parts hg hJ.1
  obtain⟨_,d1,d2,v1,v2,a1,a2⟩:=hI
  obtain⟨_,d1',d2',v1',v2',a1',a2'⟩:=hJ
  simp only[wxC,rwX,bxC,hf,hg,if_true,et,et',List.append_assoc] at hp
  have hq:=(put_peel (headX_bit _) (headX_bit _) hp).all (by rw[headX_len,headX_len])
  have hij:i=j:=by
   unfold headX at hq
   exact bitsN_inj (List.append_inj (List.append_inj hq rfl).2 (by simp[bitsN_length])).1 (by omega) (by omega)
  subst hij
  have hp1:=(hp.peel rfl).2
  have hp2:=(hp1.peel rfl).2
  have hp3:=fx_peel (by omega) (bodyX_bit _ _ _ _ _ _) (bodyX_bit _ _ _ _ _ _) hp2
  unfold bodyX pre2X preX at hp3
  simp only[List.append_assoc] at hp3
  obtain⟨q1,hp3⟩:=hp3.peel (by simp[bitsN_length])
  obtain⟨q2,hp3⟩:=hp3.peel rfl
  obtain⟨q3,hp3⟩:=hp3.peel (by simp[bitsN_length])
  obtain⟨_,hp3⟩:=hp3.peel rfl
  obtain⟨_,hp3⟩:=hp3.peel (by rw[sumC_len,sumC_len])
  obtain⟨q4,hp3⟩:=hp3.peel (by simp[bitsN_length])
  obtain⟨q5,hp3⟩:=hp3.peel (by simp[bitsN_length])
  have n3:=bitsN_inj q3 (by omega) (by omega)
  obtain⟨q6,_⟩:=hp3.peel (by rw[bytesBits_len,bytesBits_len];omega)
  have q7:=bytesBits_inj q6 hb hb'
  have n1:=bitsN_inj q1 (by omega) (by omega)
  have n4:=bitsN_inj q4 (by omega) (by omega)
  have n5:=bitsN_inj q5 (by omega) (by omega)
  simp only[List.cons.injEq,and_true] at q2
  have q2':=bitB_inj q2
  rw[sameF_iff]
  refine⟨?_,q7⟩
  rw[ef,eg,q2',show f.D=g.D by omega,show f.V=g.V by omega,show f.A=g.A by omega]
 ·intro h
  obtain⟨rfl,rfl⟩:=(sameF_iff _ _ _ _).1 h
  rfl
theorem headX_most (i:Nat) (hi:i < 2048):(putL (headX i)).length<=21:=by
 obtain⟨h1,h2⟩:=putL_most (l:=headX i) (headX_bit i)
 have h3:=h2 (by simp[headX])
 have h4:=(putL_len2 (headX i)).2
 rw[headX_len] at h1 h4
 omega
end Go.Proofs.YtkofdbccdfpllaaDoor
