/- The program's machine of plain data against the document's automaton: the part with dynamic stuffing, what comes next by the bits that are there. No program here. No conditions. The program's machine of plain data against the document's automaton: a bit more in the part with dynamic stuffing. No program here. No conditions. The program's machine of plain data against the document's automaton: a Classic frame's data and sum, an FD frame's head and data, where kinds part. No program here. No conditions. The program's machine of plain data against the document's automaton: where kinds part, an FD frame's head and data. No program here. No conditions. The program's machine of plain data against the document's automaton: what holds in each part; a raw bit with dynamic stuffing. No program here. No conditions. The program's machine of plain data against the document's automaton: an FD frame's fixed part. No program here. No conditions. The program's machine of plain data against the document's automaton: an XL frame's data part. No program here. No conditions. The program's machine of plain data is what the document's automaton is, bit by bit. No program here. No conditions but the row's length. The program's machine of plain data is what the document's automaton is: all rows; bounds. No program here. No conditions but the row's length. -/
import Derived.Test.YtipefblpppmabaaGreatDoorScM
namespace Go.Proofs.YtipefblpppmabaaGreatDoor
set_option linter.unusedVariables false
set_option linter.unusedSimpArgs false
open Go.RowKit
theorem drop_more {t:List Nat} {b j:Nat} (h:j<=t.length):(t++[b]).drop j=t.drop j++[b]:=by rw[List.drop_append_of_le_length h]
theorem cut_more {t:List Nat} {b i n:Nat} (h:i+n<=t.length):((t++[b]).drop i).take n=(t.drop i).take n:=by
 rw[List.drop_append_of_le_length (by omega),List.take_append_of_le_length (by rw[List.length_drop];omega)]
theorem take_more {t:List Nat} {b n:Nat} (h:n<=t.length):(t++[b]).take n=t.take n:=List.take_append_of_le_length h
theorem bitG_more {t:List Nat} {b i:Nat} (h:i < t.length):bitG (t++[b]) i=bitG t i:=by rw[bitG,List.getD,List.getElem?_append_left h];rfl
theorem bitG_last {t:List Nat} {b i:Nat} (h:i=t.length):bitG (t++[b]) i=b:=by subst h;simp[bitG]
theorem num4_more {t:List Nat} {b i:Nat} (h:i+4<=t.length):num4 (bitG (t++[b])) i=num4 (bitG t) i:=by
 rw[num4,num4,bitG_more (by omega),bitG_more (by omega),bitG_more (by omega),bitG_more (by omega)]
theorem bitG_le {t:List Nat} (h:∀ x∈t,x<=1) (i:Nat):bitG t i<=1:=by
 unfold bitG
 rw[List.getD]
 cases hq:t[i]? with
 | none=>simp
 | some x=>simpa using h x (List.mem_of_getElem? hq)
theorem numN_drop_one {t:List Nat} {j b:Nat} (h:j<=t.length):numN ((t++[b]).drop j)=numN (t.drop j)*2+b:=by rw[drop_more h,numN_snoc]
theorem numN_drop_nil {t:List Nat} {j:Nat} (h:t.length<=j):numN (t.drop j)=0:=by rw[List.drop_eq_nil_of_le h];rfl
theorem numN_cut {t:List Nat} {j n:Nat} (h:t.length=j+n):numN ((t.drop j).take n)=numN (t.drop j):=by
 rw[List.take_of_length_le (by rw[List.length_drop];omega)]
theorem numN_two {t:List Nat} {j:Nat} (h:t.length=j+2):numN (t.drop j)=bitG t j*2+bitG t (j+1):=by
 have:t.drop j=[bitG t j,bitG t (j+1)]:=by
  rw[List.drop_eq_getElem_cons (by omega),List.drop_eq_getElem_cons (by omega),List.drop_eq_nil_of_le (by omega)]
  simp[bitG,List.getD,(by omega:j < t.length),(by omega:j+1 < t.length)]
 rw[this]
 simp[numN]
theorem numN_four {t:List Nat} {j:Nat} (h:t.length=j+4):numN (t.drop j)=num4 (bitG t) j:=by
 have:t.drop j=[bitG t j,bitG t (j+1),bitG t (j+2),bitG t (j+3)]:=by
  rw[List.drop_eq_getElem_cons (by omega),List.drop_eq_getElem_cons (by omega),List.drop_eq_getElem_cons (by omega),List.drop_eq_getElem_cons (by omega),List.drop_eq_nil_of_le (by omega)]
  simp[bitG,List.getD,(by omega:j < t.length),(by omega:j+1 < t.length),(by omega:j+1+1 < t.length),(by omega:j+1+1+1 < t.length),(by omega:j+2 < t.length),(by omega:j+3 < t.length)]
 rw[this]
 simp[numN,num4]
 omega
theorem packN_more {t:List Nat} {a n b:Nat} (h:t.length+1=a+8*(n+1)):packN ((t++[b]).drop a)=packN (t.drop a)++[numN ((t++[b]).drop (a+8*n))]:=by
 have hl:((t++[b]).drop a).length=8*(n+1):=by rw[List.length_drop,List.length_append,List.length_singleton];omega
 have hl':(t.drop a).length=8*n+7:=by rw[List.length_drop];omega
 unfold packN
 rw[hl,hl',show 8*(n+1) / 8=n+1 by omega,show (8*n+7) / 8=n by omega,List.range_succ,List.map_append,List.map_singleton]
 congr 1
 ·apply List.map_congr_left
  intro i hi
  have hi':=List.mem_range.1 hi
  congr 1
  rw[List.drop_drop,List.drop_drop,cut_more (by omega)]
 ·rw[List.drop_drop,List.take_of_length_le (by rw[List.length_drop,List.length_append,List.length_singleton];omega)]
theorem packN_same {t:List Nat} {a b:Nat} (h:a<=t.length) (h8:(t.length+1 - a)%8≠0):packN ((t++[b]).drop a)=packN (t.drop a):=by
 have hl:((t++[b]).drop a).length=t.length+1 - a:=by rw[List.length_drop,List.length_append,List.length_singleton]
 have hl':(t.drop a).length=t.length - a:=by rw[List.length_drop]
 unfold packN
 rw[hl,hl',show (t.length+1 - a) / 8=(t.length - a) / 8 by omega]
 apply List.map_congr_left
 intro i hi
 have hi':=List.mem_range.1 hi
 congr 1
 rw[List.drop_drop,List.drop_drop,cut_more (by omega)]
def cN (k:Nat) (l:List Nat):Nat:=runC (szK (k:Nat)) (polyK (k:Nat)) (startK (k:Nat)) l
theorem cN_snoc (k:Nat) (l:List Nat) (b:Nat):cN k (l++[b])=stepC (szK (k:Nat)) (polyK (k:Nat)) (cN k l) b:=runC_snoc _ _ _ _ _
def idN (t:List Nat):Nat:=numN ((t.drop 1).take 11)
def hdS (t:List Nat):Hd:={ noF with I:=(idN t:Nat) }
def hdR (t:List Nat):Hd:={ hdS t with R:=bitG t 12==1 }
def hdX (t:List Nat):Hd:={ hdS t with X:=true }
def hdL (t:List Nat):Hd:={ hdX t with I:=((idN t*262144+numN ((t.drop 14).take 18):Nat):Int) }
def hdLR (t:List Nat):Hd:={ hdL t with R:=bitG t 32==1 }
theorem idN_more {t:List Nat} {b:Nat} (h:12<=t.length):idN (t++[b])=idN t:=by unfold idN;rw[cut_more (by omega)]
theorem hdS_more {t:List Nat} {b:Nat} (h:12<=t.length):hdS (t++[b])=hdS t:=by unfold hdS;rw[idN_more h]
theorem hdX_more {t:List Nat} {b:Nat} (h:12<=t.length):hdX (t++[b])=hdX t:=by unfold hdX;rw[hdS_more h]
theorem hdR_more {t:List Nat} {b:Nat} (h:13<=t.length):hdR (t++[b])=hdR t:=by unfold hdR;rw[hdS_more (by omega),bitG_more (by omega)]
theorem hdL_more {t:List Nat} {b:Nat} (h:32<=t.length):hdL (t++[b])=hdL t:=by unfold hdL;rw[hdX_more (by omega),idN_more (by omega),cut_more (by omega)]
theorem hdLR_more {t:List Nat} {b:Nat} (h:33<=t.length):hdLR (t++[b])=hdLR t:=by unfold hdLR;rw[hdL_more (by omega),bitG_more (by omega)]
theorem clF_ext {t:List Nat} (h:bitG t 13=1):clF t={ hdLR t with K:=1 }:=by unfold clF;rw[if_pos h];rfl
theorem clF_std {t:List Nat} (h:bitG t 13≠1):clF t={ hdR t with K:=1 }:=by unfold clF;rw[if_neg h];rfl
theorem idN_lt {t:List Nat} (h:∀ x∈t,x<=1):idN t < 2048:=by
 have:=numN_lt ((t.drop 1).take 11) (fun x hx=>h x (List.mem_of_mem_drop (List.mem_of_mem_take hx)))
 refine Nat.lt_of_lt_of_le this (Nat.le_trans (Nat.pow_le_pow_right (by omega) (?_:_<=11)) (by decide))
 rw[List.length_take]
 omega
def Base (t:List Nat) (a:Nat):Prop:=(a=35/\bitG t 13=1)\/(a=15/\bitG t 13≠1/\bitG t 14=0)
inductive Cx (kn:Bool) (t:List Nat):Nx->Hd->List Nat->List Nat->List Nat->Prop where
 | s0:t=[]->Cx kn t (.must [0] .top) noF [] [2,3] [1,4]
 | s1:1<=t.length->t.length < 12->Cx kn t (.num (12 - t.length) (numN (t.drop 1)) .identified) noF [] [2,3] [1,4]
 | s2:12<=t.length->t.length < 14->Cx kn t (.num (14 - t.length) (numN (t.drop 12)) .longOrNot) (hdS t) [] [2,3] [1,4]
 | x1:14<=t.length->t.length < 32->bitG t 13=1->Cx kn t (.num (32 - t.length) (numN (t.drop 14)) .prolonged) (hdX t) [] [2,3] [1,4]
 | x2:t.length=32->bitG t 13=1->Cx kn t (.num 1 0 (.flag .rtr .heads)) (hdL t) [] [2,3] [1,4]
 | x3:t.length=33->bitG t 13=1->Cx kn t (.must [0,0] .classic) (hdLR t) [] [2,3] [1,4]
 | x4:t.length=34->bitG t 13=1->Cx kn t (.must [0] .classic) (hdLR t) [] [2,3] [1,4]
 | c1 (a:Nat):Base t a->a<=t.length->t.length < a+4->Cx kn t (.num (a+4 - t.length) (numN (t.drop a)) (.size .cl)) (clF t) [] [] [1]
 | c2 (a j c:Nat):Base t a->a+4+8*j<=t.length->t.length < a+4+8*j+8->num4 (bitG t) a=c->j < c->Cx kn t (.num (8 - (t.length - (a+4+8*j))) (numN (t.drop (a+4+8*j))) (.data (c - j) .sumCl)) (clF t) (packN (t.drop (a+4))) [] [1]
 | c3 (a c:Nat):Base t a->a+4+8*c<=t.length->t.length < a+4+8*c+15->num4 (bitG t) a=c->Cx kn t (.num (15 - (t.length - (a+4+8*c))) (numN (t.drop (a+4+8*c))) (.check (cN 1 (t.take (a+4+8*c))) .tail)) (clF t) (packN ((t.drop (a+4)).take (8*c))) [] [1]
 | r1:t.length=14->bitG t 13≠1->Cx kn t (.num 1 0 .classicOrNot) (hdR t) [] [2,3] [1,4]
 | r2:t.length=15->bitG t 13≠1->bitG t 14=1->bitG t 12=0->Cx kn t (.num 1 0 .fdOrXL) (hdR t) [] [2,3] [1,4]
 | l1:t.length=16->bitG t 13≠1->bitG t 14=1->bitG t 15=1->bitG t 12=0->kn=true->Cx kn t (.must [0] .headed) (hdR t) [] [2,3] [1,4]
 | f1:t.length=16->bitG t 13≠1->bitG t 14=1->bitG t 15=0->bitG t 12=0->Cx kn t (.num 1 0 (.flag .brs .esi)) { hdR t with K:=2 } [] [2,3] []
 | f2:t.length=17->bitG t 13≠1->bitG t 14=1->bitG t 15=0->bitG t 12=0->Cx kn t (.num 1 0 (.flag .esi .fdSize)) { hdR t with K:=2,B:=bitG t 16==1 } [] [2,3] []
 | f3:18<=t.length->t.length < 22->bitG t 13≠1->bitG t 14=1->bitG t 15=0->bitG t 12=0->Cx kn t (.num (22 - t.length) (numN (t.drop 18)) (.size .sized)) (fdF t) [] [2,3] []
 | f4 (j c:Nat):22+8*j<=t.length->t.length < 22+8*j+8->bitG t 13≠1->bitG t 14=1->bitG t 15=0->bitG t 12=0->fdN t=c->j < c->Cx kn t (.num (8 - (t.length - (22+8*j))) (numN (t.drop (22+8*j))) (.data (c - j) (.fixd (kindD c)))) (fdF t) (packN (t.drop 22)) [kindD c] []
theorem next_adv {m:PM} {left n:Nat} {k:KN} (h:m.nx = .num left n k) (hl:left≠1) (b:Nat):m.next b={ m with nx := .num (left - 1) (n*2+b) k }:=by
 unfold PM.next
 rw[h]
 exact if_neg hl
theorem next_last {m:PM} {n:Nat} {k:KN} (h:m.nx = .num 1 n k) (b:Nat):m.next b=runN k (n*2+b) m:=by
 unfold PM.next
 rw[h]
 exact if_pos rfl
theorem next_must {m:PM} {want:List Nat} {k:K0} (h:m.nx = .must want k) (b:Nat):m.next b=m.mustGo want k b:=by
 unfold PM.next
 rw[h]
theorem jd_one (kn:Bool) (g:Nat->Nat):judgeN kn 1 g=if g 0=1 then .bad else .on:=by unfold judgeN;rw[if_pos rfl]
theorem jd_low {kn:Bool} {n:Nat} {g:Nat->Nat} (h1:n≠1) (h:n < 14):judgeN kn n g = .on:=by unfold judgeN;rw[if_neg h1,if_pos h]
theorem jd_14 (kn:Bool) (g:Nat->Nat):judgeN kn 14 g=if g 13=1/\g 12=0 then .bad else .on:=by unfold judgeN;rw[if_neg (by omega),if_neg (by omega),if_pos rfl]
theorem jd_ext {kn:Bool} {n:Nat} {g:Nat->Nat} (h:15<=n) (h13:g 13=1):judgeN kn n g=if n < 34 then .on else if n=34 then (if g 33=1 then .bad else .on) else if n=35 then (if g 34=1 then .bad else .on) else if n < 39 then .on else codeJ n 39 (g 32) (num4 g 35):=by
 unfold judgeN;rw[if_neg (by omega),if_neg (by omega),if_neg (by omega),if_pos h13]
theorem jd_std {kn:Bool} {n:Nat} {g:Nat->Nat} (h:15<=n) (h13:g 13≠1):judgeN kn n g=if n=15 then (if g 14=1/\g 12=1 then .bad else .on)
    else if g 14=0 then (if n < 19 then .on else codeJ n 19 (g 12) (num4 g 15))
    else if n=16 then (if g 15=1/\kn=false then .alien else .on)
    else if g 15=0 then (if n < 22 then .on else if n=22+8*atF 2 (num4 g 18) then .fd else .on)
    else if g 16=1 then .bad else .xl:=by
 unfold judgeN;rw[if_neg (by omega),if_neg (by omega),if_neg (by omega),if_neg h13]
theorem jd_base {kn:Bool} {t:List Nat} {a:Nat} (h:Base t a) (hn:a < t.length):judge kn t=if t.length < a+4 then .on else codeJ t.length (a+4) (if bitG t 13=1 then bitG t 32 else bitG t 12) (num4 (bitG t) a):=by
 unfold judge
 rcases h with ⟨rfl,h13⟩ | ⟨rfl,h13,h14⟩
 ·rw[jd_ext (by omega) h13,if_neg (by omega),if_neg (by omega),if_neg (by omega),if_pos h13]
 ·rw[jd_std (by omega) h13,if_neg (by omega),if_pos h14,if_neg h13]
end Go.Proofs.YtipefblpppmabaaGreatDoor
namespace Go.Proofs.YtipefblpppmabaaGreatDoor
set_option linter.unusedVariables false
set_option linter.unusedSimpArgs false
open Go.RowKit
def MOut (kn:Bool) (t':List Nat) (m r:PM):Prop :=
 match judge kn t' with
 | .on=>∃ nx f l oR oP,r={ m with nx:=nx,f:=f,l:=l,oR:=oR,oP:=oP }/\Cx kn t' nx f l oR oP/\(∀ k∈oR,k∈m.oR)/\(∀ k∈oP,k∈m.oP)
 | .bad=>r=m.bad 5
 | .alien=>r=m.fin ⟨4,0,noF,[]⟩
 | .cl=>r={ m with raw := .bare,nx := .must [1] .delimited,f:=clF t',l:=clD t',oR:=[],oP:=[1],wrong := !fitsB 1 t' }
 | .fd=>r={ m with raw := .spaced,every:=4,since:=4,oR:=[kindD (fdN t')],oP:=[kindD (fdN t')],f:=fdF t',l:=fdD t',nx := .num 4 0 (.check (numN (tallyL m.stuffs)) (.sumFd (kindD (fdN t')))) }/\kindD (fdN t')∈m.oR
 | .xl=>r={ m with raw := .bare,f:={ hdR t' with K:=3 },nx := .must [1,0,0,1] .dataPart }/\bitG t' 12=0/\t'.length=17/\4∈m.oP/\m.l=[]
theorem MOut.on {kn:Bool} {t':List Nat} {m r:PM} (hj:judge kn t' = .on) {nx:Nx} {f:Hd} {l oR oP:List Nat} (hr:r={ m with nx:=nx,f:=f,l:=l,oR:=oR,oP:=oP }) (hc:Cx kn t' nx f l oR oP) (h1:∀ k∈oR,k∈m.oR) (h2:∀ k∈oP,k∈m.oP):MOut kn t' m r:=by
 unfold MOut
 rw[hj]
 exact⟨nx,f,l,oR,oP,hr,hc,h1,h2⟩
theorem MOut.bad {kn:Bool} {t':List Nat} {m r:PM} (hj:judge kn t' = .bad) (hr:r=m.bad 5):MOut kn t' m r:=by unfold MOut;rw[hj];exact hr
structure Cm (kn:Bool) (t:List Nat) (b:Nat) (m:PM):Prop where
 kn:m.kn=kn
 wr:m.wrong=false
 ht:∀ x∈t,x<=1
 hb:b<=1
 hs:∀ k∈m.oP,m.re k=cN k (t++[b])
 hl:t.length+1<=65536
theorem Cm.len {kn:Bool} {t:List Nat} {b:Nat} {m:PM} (_:Cm kn t b m):(t++[b]).length=t.length+1:=by simp
theorem Cm.ht' {kn:Bool} {t:List Nat} {b:Nat} {m:PM} (h:Cm kn t b m):∀ x∈t++[b],x<=1:=by
 intro x hx
 rcases List.mem_append.1 hx with h1 | h1
 ·exact h.ht x h1
 ·have:=List.mem_singleton.1 h1;have:=h.hb;omega
theorem cx_s0 {kn:Bool} {t:List Nat} {b:Nat} {m:PM} (h:Cm kn t b m) (hnx:m.nx = .must [0] .top) (hf:m.f=noF) (hl:m.l=[]) (hR:m.oR=[2,3]) (hP:m.oP=[1,4]) (h0:t=[]):MOut kn (t++[b]) m (m.next b):=by
 subst h0
 have hb:=h.hb
 rw[next_must hnx,List.nil_append]
 by_cases e:b=0
 ·subst e
  refine .on (nx := .num 11 0 .identified) (f:=m.f) (l:=m.l) (oR:=m.oR) (oP:=m.oP) ?_ (by simp[PM.mustGo];rfl) ?_ (fun _ h=>h) (fun _ h=>h)
  ·unfold judge;exact jd_one kn _
  ·rw[hf,hl,hR,hP]
   exact Cx.s1 (kn:=kn) (t:=[0]) (by simp) (by simp)
 ·refine .bad ?_ (by simp[PM.mustGo,e])
  unfold judge
  rw[show ([b]:List Nat).length=1 from rfl,jd_one,if_pos (by simp[bitG];omega)]
theorem cx_s1 {kn:Bool} {t:List Nat} {b:Nat} {m:PM} (h:Cm kn t b m) (hnx:m.nx = .num (12 - t.length) (numN (t.drop 1)) .identified) (hf:m.f=noF) (hl:m.l=[]) (hR:m.oR=[2,3]) (hP:m.oP=[1,4]) (h1:1<=t.length) (h2:t.length < 12):MOut kn (t++[b]) m (m.next b):=by
 have hj:judge kn (t++[b]) = .on:=by unfold judge;rw[h.len];exact jd_low (by omega) (by omega)
 by_cases e:t.length=11
 ·rw[e] at hnx
  rw[next_last hnx,<- numN_drop_one (by omega)]
  have hid:idN (t++[b])=numN ((t++[b]).drop 1):=numN_cut (by rw[h.len,e])
  rw[<- hid]
  refine .on hj (nx := .num 2 0 .longOrNot) (f:={ m.f with I:=(idN (t++[b]):Nat) }) (l:=m.l) (oR:=m.oR) (oP:=m.oP) rfl ?_ (fun _ h=>h) (fun _ h=>h)
  rw[hf,hl,hR,hP]
  have c:=Cx.s2 (kn:=kn) (t:=t++[b]) (by rw[h.len];omega) (by rw[h.len];omega)
  rw[numN_drop_nil (by rw[h.len];omega),h.len,e] at c
  exact c
 ·rw[next_adv hnx (by omega),<- numN_drop_one (by omega)]
  refine .on hj (f:=m.f) (l:=m.l) (oR:=m.oR) (oP:=m.oP) rfl ?_ (fun _ h=>h) (fun _ h=>h)
  rw[hf,hl,hR,hP]
  have c:=Cx.s1 (kn:=kn) (t:=t++[b]) (by rw[h.len];omega) (by rw[h.len];omega)
  rw[h.len,show 12 - (t.length+1)=12 - t.length - 1 by omega] at c
  exact c
theorem cx_s2 {kn:Bool} {t:List Nat} {b:Nat} {m:PM} (h:Cm kn t b m) (hnx:m.nx = .num (14 - t.length) (numN (t.drop 12)) .longOrNot) (hf:m.f=hdS t) (hl:m.l=[]) (hR:m.oR=[2,3]) (hP:m.oP=[1,4]) (h1:12<=t.length) (h2:t.length < 14):MOut kn (t++[b]) m (m.next b):=by
 by_cases e:t.length=13
 ·rw[e] at hnx
  rw[next_last hnx,<- numN_drop_one (by omega)]
  have hj:judge kn (t++[b])=if bitG (t++[b]) 13=1/\bitG (t++[b]) 12=0 then .bad else .on:=by unfold judge;rw[h.len,e];exact jd_14 kn _
  rw[numN_two (by rw[h.len,e])]
  have g12:=bitG_le h.ht' 12
  have g13:=bitG_le h.ht' 13
  have hdr:(t++[b]).drop 14=[]:=List.drop_eq_nil_of_le (by rw[h.len];omega)
  have hs:=hdS_more (t:=t) (b:=b) h1
  rcases (by omega:(bitG (t++[b]) 12=1/\bitG (t++[b]) 13=1)\/(bitG (t++[b]) 12=0/\bitG (t++[b]) 13=1)\/bitG (t++[b]) 13=0) with ⟨a1,a2⟩ | ⟨a1,a2⟩ | a2
  ·rw[a1,a2]
   refine .on (by rw[hj,if_neg (by omega)]) (nx := .num 18 0 .prolonged) (f:={ m.f with X:=true }) (l:=m.l) (oR:=m.oR) (oP:=m.oP) rfl ?_ (fun _ h=>h) (fun _ h=>h)
   rw[hf,hl,hR,hP]
   have c:=Cx.x1 (kn:=kn) (t:=t++[b]) (by rw[h.len];omega) (by rw[h.len];omega) a2
   rw[hdr,h.len,e] at c
   unfold hdX at c
   rw[hs] at c
   exact c
  ·rw[a1,a2]
   exact .bad (by rw[hj,if_pos ⟨a2,a1⟩]) rfl
  ·rw[a2]
   have e2:runN .longOrNot (bitG (t++[b]) 12*2+0) m=PM.num { m with f:={ m.f with R:=bitG (t++[b]) 12==1 } } 1 .classicOrNot:=by
    rcases (by omega:bitG (t++[b]) 12=0\/bitG (t++[b]) 12=1) with q | q<;>rw[q]<;>rfl
   rw[e2]
   refine .on (by rw[hj,if_neg (by omega)]) (nx := .num 1 0 .classicOrNot) (f:={ m.f with R:=bitG (t++[b]) 12==1 }) (l:=m.l) (oR:=m.oR) (oP:=m.oP) rfl ?_ (fun _ h=>h) (fun _ h=>h)
   rw[hf,hl,hR,hP]
   have c:=Cx.r1 (kn:=kn) (t:=t++[b]) (by rw[h.len,e]) (by omega)
   unfold hdR at c
   rw[hs] at c
   exact c
 ·have hj:judge kn (t++[b]) = .on:=by unfold judge;rw[h.len];exact jd_low (by omega) (by omega)
  rw[next_adv hnx (by omega),<- numN_drop_one (by omega)]
  refine .on hj (f:=m.f) (l:=m.l) (oR:=m.oR) (oP:=m.oP) rfl ?_ (fun _ h=>h) (fun _ h=>h)
  rw[hf,hl,hR,hP]
  have c:=Cx.s2 (kn:=kn) (t:=t++[b]) (by rw[h.len];omega) (by rw[h.len];omega)
  rw[h.len,show 14 - (t.length+1)=14 - t.length - 1 by omega,hdS_more h1] at c
  exact c
theorem or_u32 (a b:Nat) (ha:a < 4294967296) (hb:b < 4294967296):bits BinOp.or IntKind.u32 (a:Int) (b:Int)=((a ||| b:Nat):Int):=by
 have hx:a ||| b < 2^32:=Nat.or_lt_two_pow (by omega) (by omega)
 have h1:(BitVec.ofInt 32 (a:Int)).toNat=a:=by rw[BitVec.ofInt_natCast,BitVec.toNat_ofNat];exact Nat.mod_eq_of_lt (by omega)
 have h2:(BitVec.ofInt 32 (b:Int)).toNat=b:=by rw[BitVec.ofInt_natCast,BitVec.toNat_ofNat];exact Nat.mod_eq_of_lt (by omega)
 show IntKind.u32.wrap ((BitVec.ofInt 32 (a:Int) ||| BitVec.ofInt 32 (b:Int)).toNat:Int)=_
 rw[BitVec.toNat_or,h1,h2,IntKind.wrap_u32]
 omega
theorem longI_eq {i v:Nat} (hi:i < 2048) (hv:v < 262144):longI (i:Nat) v=((i*262144+v:Nat):Int):=by
 unfold longI
 have e1:((i:Int)*262144%4294967296)=((i*262144:Nat):Int):=by omega
 rw[e1]
 have h1:=or_u32 (i*262144) v (by omega) (by omega)
 rw[h1]
 have h2:=Nat.two_pow_add_eq_or_of_lt (i:=18) (b:=v) (by omega) i
 rw[show i*262144=2^18*i by omega,<- h2]
theorem cx_x {kn:Bool} {t:List Nat} {b:Nat} {m:PM} (h:Cm kn t b m) (hnx:m.nx = .num (32 - t.length) (numN (t.drop 14)) .prolonged) (hf:m.f=hdX t) (hl:m.l=[]) (hR:m.oR=[2,3]) (hP:m.oP=[1,4]) (h1:14<=t.length) (h2:t.length < 32) (h13:bitG t 13=1):MOut kn (t++[b]) m (m.next b):=by
 have g13:bitG (t++[b]) 13=1:=by rw[bitG_more (by omega),h13]
 have hj:judge kn (t++[b]) = .on:=by unfold judge;rw[h.len,jd_ext (by omega) g13,if_pos (by omega)]
 by_cases e:t.length=31
 ·rw[e] at hnx
  rw[next_last hnx,<- numN_drop_one (by omega)]
  have hv:numN ((t++[b]).drop 14) < 262144:=by
   have:=numN_lt ((t++[b]).drop 14) (fun x hx=>h.ht' x (List.mem_of_mem_drop hx))
   rw[List.length_drop,h.len,e] at this
   exact this
  have hE:longI m.f.I (numN ((t++[b]).drop 14))=((idN t*262144+numN ((t++[b]).drop 14):Nat):Int):=by
   rw[hf]
   exact longI_eq (idN_lt h.ht) hv
  refine .on hj (nx := .num 1 0 (.flag .rtr .heads)) (f:={ m.f with I:=((idN t*262144+numN ((t++[b]).drop 14):Nat):Int) }) (l:=m.l) (oR:=m.oR) (oP:=m.oP) (by rw[<- hE];rfl) ?_ (fun _ h=>h) (fun _ h=>h)
  rw[hf,hl,hR,hP]
  have c:=Cx.x2 (kn:=kn) (t:=t++[b]) (by rw[h.len,e]) g13
  unfold hdL at c
  rw[hdX_more (by omega),idN_more (by omega),numN_cut (by rw[h.len,e])] at c
  exact c
 ·rw[next_adv hnx (by omega),<- numN_drop_one (by omega)]
  refine .on hj (f:=m.f) (l:=m.l) (oR:=m.oR) (oP:=m.oP) rfl ?_ (fun _ h=>h) (fun _ h=>h)
  rw[hf,hl,hR,hP]
  have c:=Cx.x1 (kn:=kn) (t:=t++[b]) (by rw[h.len];omega) (by rw[h.len];omega) g13
  rw[h.len,show 32 - (t.length+1)=32 - t.length - 1 by omega,hdX_more (by omega)] at c
  exact c
theorem beq_bit {b:Nat} (h:b<=1) (n:Nat) (hn:n=b):(0*2+b==1)=(n==1):=by subst hn;congr 1;omega
theorem cx_x2 {kn:Bool} {t:List Nat} {b:Nat} {m:PM} (h:Cm kn t b m) (hnx:m.nx = .num 1 0 (.flag .rtr .heads)) (hf:m.f=hdL t) (hl:m.l=[]) (hR:m.oR=[2,3]) (hP:m.oP=[1,4]) (h1:t.length=32) (h13:bitG t 13=1):MOut kn (t++[b]) m (m.next b):=by
 have g13:bitG (t++[b]) 13=1:=by rw[bitG_more (by omega),h13]
 have hj:judge kn (t++[b]) = .on:=by unfold judge;rw[h.len,jd_ext (by omega) g13,if_pos (by omega)]
 rw[next_last hnx]
 refine .on hj (nx := .must [0,0] .classic) (f:={ m.f with R:=0*2+b==1 }) (l:=m.l) (oR:=m.oR) (oP:=m.oP) rfl ?_ (fun _ h=>h) (fun _ h=>h)
 rw[hf,hl,hR,hP,beq_bit h.hb (bitG (t++[b]) 32) (bitG_last (by omega))]
 have c:=Cx.x3 (kn:=kn) (t:=t++[b]) (by rw[h.len,h1]) g13
 unfold hdLR at c
 rw[hdL_more (by omega)] at c
 exact c
theorem cx_x3 {kn:Bool} {t:List Nat} {b:Nat} {m:PM} (h:Cm kn t b m) (hnx:m.nx = .must [0,0] .classic) (hf:m.f=hdLR t) (hl:m.l=[]) (hR:m.oR=[2,3]) (hP:m.oP=[1,4]) (h1:t.length=33) (h13:bitG t 13=1):MOut kn (t++[b]) m (m.next b):=by
 have g13:bitG (t++[b]) 13=1:=by rw[bitG_more (by omega),h13]
 have hb:=h.hb
 have g33:bitG (t++[b]) 33=b:=bitG_last (by omega)
 have hj:judge kn (t++[b])=if b=1 then .bad else .on:=by unfold judge;rw[h.len,h1,jd_ext (by omega) g13,if_neg (by omega),if_pos rfl,g33]
 rw[next_must hnx]
 by_cases e:b=0
 ·subst e
  refine .on (by rw[hj,if_neg (by omega)]) (nx := .must [0] .classic) (f:=m.f) (l:=m.l) (oR:=m.oR) (oP:=m.oP) (by simp[PM.mustGo]) ?_ (fun _ h=>h) (fun _ h=>h)
  rw[hf,hl,hR,hP]
  have c:=Cx.x4 (kn:=kn) (t:=t++[0]) (by rw[h.len,h1]) g13
  rw[hdLR_more (by omega)] at c
  exact c
 ·exact .bad (by rw[hj,if_pos (by omega)]) (by simp[PM.mustGo,e])
theorem cx_x4 {kn:Bool} {t:List Nat} {b:Nat} {m:PM} (h:Cm kn t b m) (hnx:m.nx = .must [0] .classic) (hf:m.f=hdLR t) (hl:m.l=[]) (hR:m.oR=[2,3]) (hP:m.oP=[1,4]) (h1:t.length=34) (h13:bitG t 13=1):MOut kn (t++[b]) m (m.next b):=by
 have g13:bitG (t++[b]) 13=1:=by rw[bitG_more (by omega),h13]
 have hb:=h.hb
 have g34:bitG (t++[b]) 34=b:=bitG_last (by omega)
 have hj:judge kn (t++[b])=if b=1 then .bad else .on:=by unfold judge;rw[h.len,h1,jd_ext (by omega) g13,if_neg (by omega),if_neg (by omega),if_pos rfl,g34]
 rw[next_must hnx]
 by_cases e:b=0
 ·subst e
  refine .on (by rw[hj,if_neg (by omega)]) (nx := .num 4 0 (.size .cl)) (f:={ m.f with K:=1 }) (l:=m.l) (oR:=[]) (oP:=[1]) (by simp[PM.mustGo];rfl) ?_ (by simp) (by rw[hP];simp)
  rw[hf,hl]
  have c:=Cx.c1 (kn:=kn) (t:=t++[0]) 35 (.inl ⟨rfl,g13⟩) (by rw[h.len];omega) (by rw[h.len];omega)
  rw[numN_drop_nil (by rw[h.len];omega),h.len,h1,clF_ext g13,hdLR_more (by omega)] at c
  exact c
 ·exact .bad (by rw[hj,if_pos (by omega)]) (by simp[PM.mustGo,e])
end Go.Proofs.YtipefblpppmabaaGreatDoor
namespace Go.Proofs.YtipefblpppmabaaGreatDoor
set_option linter.unusedVariables false
set_option linter.unusedSimpArgs false
open Go.RowKit
theorem Base.more {t:List Nat} {a b:Nat} (h:Base t a) (hn:15<=t.length):Base (t++[b]) a:=by
 rcases h with ⟨h1,h2⟩ | ⟨h1,h2,h3⟩
 ·exact .inl ⟨h1,by rw[bitG_more (by omega),h2]⟩
 ·exact .inr ⟨h1,by rw[bitG_more (by omega)];exact h2,by rw[bitG_more (by omega),h3]⟩
theorem Base.ge {t:List Nat} {a:Nat} (h:Base t a):15<=a:=by rcases h with ⟨h1,_⟩ | ⟨h1,_⟩<;>omega
theorem Base.at {t:List Nat} {a:Nat} (h:Base t a):clAt t=a+4:=by
 unfold clAt
 rcases h with ⟨rfl,h2⟩ | ⟨rfl,h2,_⟩
 ·rw[if_pos h2]
 ·rw[if_neg h2]
theorem clF_more {t:List Nat} {a b:Nat} (h:Base t a) (hn:a<=t.length):clF (t++[b])=clF t:=by
 rcases h with ⟨rfl,h2⟩ | ⟨rfl,h2,_⟩
 ·rw[clF_ext h2,clF_ext (by rw[bitG_more (by omega),h2]),hdLR_more (by omega)]
 ·rw[clF_std h2,clF_std (by rw[bitG_more (by omega)];exact h2),hdR_more (by omega)]
theorem clF_R {t:List Nat} {a:Nat} (h:Base t a):(clF t).R=((if bitG t 13=1 then bitG t 32 else bitG t 12)==1)/\(clF t).K=1:=by
 rcases h with ⟨rfl,h2⟩ | ⟨rfl,h2,_⟩
 ·rw[clF_ext h2,if_pos h2];exact⟨rfl,rfl⟩
 ·rw[clF_std h2,if_neg h2];exact⟨rfl,rfl⟩
theorem size1 (v:Nat):(sizeE 1 (v:Nat)≠0↔9<=v)/\(v < 9->sizeV 1 (v:Nat)=v):=by
 have e:isC 1 (v:Nat)=decide (v < 9):=by
  unfold isC
  rw[show cntF 1=9 from rfl]
  by_cases h:v < 9
  ·rw[decide_eq_true h];simp;omega
  ·rw[decide_eq_false h];simp;omega
 constructor
 ·unfold sizeE
  rw[e]
  by_cases h:v < 9
  ·rw[decide_eq_true h];simp;omega
  ·rw[decide_eq_false h];simp;omega
 ·intro h
  unfold sizeV
  rw[e,decide_eq_true h,if_pos rfl,Int.toNat_natCast]
  exact at1 v h
theorem num4_lt {t:List Nat} (h:∀ x∈t,x<=1) (i:Nat):num4 (bitG t) i < 16:=by
 have a:=bitG_le h i
 have b:=bitG_le h (i+1)
 have c:=bitG_le h (i+2)
 have d:=bitG_le h (i+3)
 unfold num4
 omega
theorem byte_lt {t:List Nat} {j:Nat} (h:∀ x∈t,x<=1) (hl:t.length=j+8):numN (t.drop j)%256=numN (t.drop j):=by
 have:=numN_lt (t.drop j) (fun x hx=>h x (List.mem_of_mem_drop hx))
 rw[List.length_drop,hl,show j+8 - j=8 by omega] at this
 omega
theorem cx_c1 {kn:Bool} {t:List Nat} {b:Nat} {m:PM} (h:Cm kn t b m) (a:Nat) (hnx:m.nx = .num (a+4 - t.length) (numN (t.drop a)) (.size .cl)) (hf:m.f=clF t) (hl:m.l=[]) (hR:m.oR=[]) (hP:m.oP=[1]) (hB:Base t a) (h1:a<=t.length) (h2:t.length < a+4):MOut kn (t++[b]) m (m.next b):=by
 have ha:=hB.ge
 have hB':=hB.more (b:=b) (by omega)
 have hfm:=clF_more (b:=b) hB h1
 by_cases e:t.length=a+3
 ·rw[show a+4 - t.length=1 by omega] at hnx
  rw[next_last hnx,<- numN_drop_one (by omega),numN_four (by rw[h.len];omega)]
  have hj:judge kn (t++[b])=codeJ (a+4) (a+4) (if bitG (t++[b]) 13=1 then bitG (t++[b]) 32 else bitG (t++[b]) 12) (num4 (bitG (t++[b])) a):=by
   rw[jd_base hB' (by rw[h.len];omega),h.len,if_neg (by omega),show t.length+1=a+4 by omega]
  obtain⟨fR,fK⟩:=clF_R hB'
  rw[hfm] at fR fK
  have hc16:=num4_lt h.ht' a
  generalize hcd:num4 (bitG (t++[b])) a=c at *
  generalize (if bitG (t++[b]) 13=1 then bitG (t++[b]) 32 else bitG (t++[b]) 12)=r at *
  obtain⟨z1,z2⟩:=size1 c
  have hrun:runN (.size .cl) c m=if 9<=c\/(r=1/\0 < c) then m.bad 5 else m.data c .sumCl:=by
   show (if sizeE m.f.K c≠0\/(m.f.R=true/\sizeV m.f.K c≠0) then m.bad 5 else runZ .cl (sizeV m.f.K c) m)=_
   rw[hf,fK,fR]
   by_cases q:9<=c
   ·rw[if_pos (.inl (z1.2 q)),if_pos (.inl q)]
   ·rw[z2 (by omega)]
    by_cases q2:r=1/\0 < c
    ·rw[if_pos (.inr ⟨by rw[beq_iff_eq];exact q2.1,by omega⟩),if_pos (.inr q2)]
    ·rw[if_neg,if_neg]
     ·rfl
     ·rintro (q3 | q3)
      ·omega
      ·exact q2 q3
     ·rintro (q3 | ⟨q3,q4⟩)
      ·exact q (z1.1 q3)
      ·rw[beq_iff_eq] at q3;exact q2 ⟨q3,by omega⟩
  rw[hrun]
  by_cases q:9<=c\/(r=1/\0 < c)
  ·rw[if_pos q]
   refine .bad ?_ rfl
   have q':8 < c\/(r=1/\0 < c):=by
    rcases q with q | q
    ·exact .inl (by omega)
    ·exact .inr q
   rw[hj,codeJ,if_pos ⟨rfl,q'⟩]
  ·rw[if_neg q]
   have hon:judge kn (t++[b]) = .on:=by
    rw[hj,codeJ,if_neg (by rintro⟨_,q1 | q1⟩;exact q (.inl (by omega));exact q (.inr q1)),if_neg (by omega)]
   by_cases q0:c=0
   ·refine .on hon (nx := .num 15 0 (.check (m.re 1) .tail)) (f:=m.f) (l:=m.l) (oR:=m.oR) (oP:=m.oP) (by unfold PM.data;rw[if_pos q0];rfl) ?_ (fun _ h=>h) (fun _ h=>h)
    rw[h.hs 1 (by rw[hP];simp),hf,hl,hR,hP]
    have cx:=Cx.c3 (kn:=kn) (t:=t++[b]) a 0 hB' (by rw[h.len];omega) (by rw[h.len];omega) (by rw[hcd,q0])
    rw[numN_drop_nil (by rw[h.len];omega),h.len,hfm,List.take_of_length_le (by rw[h.len];omega),show 15 - (t.length+1 - (a+4+8*0))=15 by omega,show 8*0=0 from rfl,List.take_zero] at cx
    exact cx
   ·refine .on hon (nx := .num 8 0 (.data c .sumCl)) (f:=m.f) (l:=m.l) (oR:=m.oR) (oP:=m.oP) (by unfold PM.data;rw[if_neg q0];rfl) ?_ (fun _ h=>h) (fun _ h=>h)
    rw[hf,hl,hR,hP]
    have cx:=Cx.c2 (kn:=kn) (t:=t++[b]) a 0 c hB' (by rw[h.len];omega) (by rw[h.len];omega) hcd (by omega)
    rw[numN_drop_nil (by rw[h.len];omega),h.len,hfm,List.drop_eq_nil_of_le (by rw[h.len];omega),show 8 - (t.length+1 - (a+4+8*0))=8 by omega] at cx
    exact cx
 ·have hon:judge kn (t++[b]) = .on:=by rw[jd_base hB' (by rw[h.len];omega),h.len,if_pos (by omega)]
  rw[next_adv hnx (by omega),<- numN_drop_one (by omega)]
  refine .on hon (f:=m.f) (l:=m.l) (oR:=m.oR) (oP:=m.oP) rfl ?_ (fun _ h=>h) (fun _ h=>h)
  rw[hf,hl,hR,hP]
  have cx:=Cx.c1 (kn:=kn) (t:=t++[b]) a hB' (by rw[h.len];omega) (by rw[h.len];omega)
  rw[h.len,show a+4 - (t.length+1)=a+4 - t.length - 1 by omega,hfm] at cx
  exact cx
theorem cx_c2 {kn:Bool} {t:List Nat} {b:Nat} {m:PM} (h:Cm kn t b m) (a j c:Nat) (hnx:m.nx = .num (8 - (t.length - (a+4+8*j))) (numN (t.drop (a+4+8*j))) (.data (c - j) .sumCl)) (hf:m.f=clF t) (hl:m.l=packN (t.drop (a+4))) (hR:m.oR=[]) (hP:m.oP=[1]) (hB:Base t a) (h1:a+4+8*j<=t.length) (h2:t.length < a+4+8*j+8) (hc:num4 (bitG t) a=c) (hjc:j < c):MOut kn (t++[b]) m (m.next b):=by
 have ha:=hB.ge
 have hB':=hB.more (b:=b) (by omega)
 have hfm:=clF_more (b:=b) hB (by omega)
 have hc':num4 (bitG (t++[b])) a=c:=by rw[num4_more (by omega),hc]
 have hon:judge kn (t++[b]) = .on:=by
  rw[jd_base hB' (by rw[h.len];omega),h.len,if_neg (by omega),codeJ,hc',if_neg (by rintro⟨q,_⟩;omega),if_neg (by omega)]
 by_cases e:t.length=a+4+8*j+7
 ·rw[show 8 - (t.length - (a+4+8*j))=1 by omega] at hnx
  rw[next_last hnx,<- numN_drop_one (by omega)]
  have hl':m.l++[numN ((t++[b]).drop (a+4+8*j))%256]=packN ((t++[b]).drop (a+4)):=by
   rw[byte_lt h.ht' (by rw[h.len];omega),hl,packN_more (a:=a+4) (n:=j) (by omega)]
  have hrun:runN (.data (c - j) .sumCl) (numN ((t++[b]).drop (a+4+8*j))) m=PM.data { m with l:=packN ((t++[b]).drop (a+4)) } (c - j - 1) .sumCl:=by
   rw[<- hl'];rfl
  rw[hrun]
  by_cases q0:c - j - 1=0
  ·refine .on hon (nx := .num 15 0 (.check (m.re 1) .tail)) (f:=m.f) (l:=packN ((t++[b]).drop (a+4))) (oR:=m.oR) (oP:=m.oP) (by unfold PM.data;rw[if_pos q0];rfl) ?_ (fun _ h=>h) (fun _ h=>h)
   rw[h.hs 1 (by rw[hP];simp),hf,hR,hP]
   have cx:=Cx.c3 (kn:=kn) (t:=t++[b]) a c hB' (by rw[h.len];omega) (by rw[h.len];omega) hc'
   rw[numN_drop_nil (by rw[h.len];omega),h.len,hfm,List.take_of_length_le (l:=t++[b]) (by rw[h.len];omega),List.take_of_length_le (by rw[List.length_drop,h.len];omega),show 15 - (t.length+1 - (a+4+8*c))=15 by omega] at cx
   exact cx
  ·refine .on hon (nx := .num 8 0 (.data (c - j - 1) .sumCl)) (f:=m.f) (l:=packN ((t++[b]).drop (a+4))) (oR:=m.oR) (oP:=m.oP) (by unfold PM.data;rw[if_neg q0];rfl) ?_ (fun _ h=>h) (fun _ h=>h)
   rw[hf,hR,hP]
   have cx:=Cx.c2 (kn:=kn) (t:=t++[b]) a (j+1) c hB' (by rw[h.len];omega) (by rw[h.len];omega) hc' (by omega)
   rw[numN_drop_nil (by rw[h.len];omega),h.len,hfm,show 8 - (t.length+1 - (a+4+8*(j+1)))=8 by omega,show c - (j+1)=c - j - 1 by omega] at cx
   exact cx
 ·rw[next_adv hnx (by omega),<- numN_drop_one (by omega)]
  refine .on hon (f:=m.f) (l:=m.l) (oR:=m.oR) (oP:=m.oP) rfl ?_ (fun _ h=>h) (fun _ h=>h)
  rw[hf,hl,hR,hP]
  have cx:=Cx.c2 (kn:=kn) (t:=t++[b]) a j c hB' (by rw[h.len];omega) (by rw[h.len];omega) hc' hjc
  rw[h.len,show 8 - (t.length+1 - (a+4+8*j))=8 - (t.length - (a+4+8*j)) - 1 by omega,hfm,packN_same (by omega) (by omega)] at cx
  exact cx
theorem cx_c3 {kn:Bool} {t:List Nat} {b:Nat} {m:PM} (h:Cm kn t b m) (a c:Nat) (hnx:m.nx = .num (15 - (t.length - (a+4+8*c))) (numN (t.drop (a+4+8*c))) (.check (cN 1 (t.take (a+4+8*c))) .tail)) (hf:m.f=clF t) (hl:m.l=packN ((t.drop (a+4)).take (8*c))) (hR:m.oR=[]) (hP:m.oP=[1]) (hB:Base t a) (h1:a+4+8*c<=t.length) (h2:t.length < a+4+8*c+15) (hc:num4 (bitG t) a=c):MOut kn (t++[b]) m (m.next b):=by
 have ha:=hB.ge
 have hB':=hB.more (b:=b) (by omega)
 have hfm:=clF_more (b:=b) hB (by omega)
 have hc':num4 (bitG (t++[b])) a=c:=by rw[num4_more (by omega),hc]
 have hj:judge kn (t++[b])=if t.length+1=a+4+8*c+15 then .cl else .on:=by
  rw[jd_base hB' (by rw[h.len];omega),h.len,if_neg (by omega),codeJ,hc',if_neg (by rintro⟨q,_⟩;omega)]
 have htk:(t++[b]).take (a+4+8*c)=t.take (a+4+8*c):=take_more h1
 have hld:packN (((t++[b]).drop (a+4)).take (8*c))=m.l:=by rw[cut_more (by omega),hl]
 by_cases e:t.length=a+4+8*c+14
 ·rw[show 15 - (t.length - (a+4+8*c))=1 by omega] at hnx
  rw[next_last hnx,<- numN_drop_one (by omega)]
  unfold MOut
  rw[hj,if_pos (by omega)]
  have hfit:fitsB 1 (t++[b])=decide (numN ((t++[b]).drop (a+4+8*c))=cN 1 (t.take (a+4+8*c))):=by
   have hch:chk (t++[b])=true:=chk_of h.ht' (by rw[h.len];exact h.hl)
   unfold fitsB
   rw[hch,show szK 1=15 from rfl,h.len,show t.length+1 - 15=a+4+8*c by omega,htk,decide_eq_true (show (15:Nat)≠0 by omega),decide_eq_true (show 15<=t.length+1 by omega)]
   rfl
  show run0 .tail { m with wrong:=m.wrong||numN ((t++[b]).drop (a+4+8*c)) != cN 1 (t.take (a+4+8*c)) }=_
  have hcd:clD (t++[b])=m.l:=by
   unfold clD
   rw[hB'.at,show a+4 - 4=a by omega,hc',hld]
  rw[hfit,hfm,hcd,h.wr,<- hf]
  rw[show (false||numN ((t++[b]).drop (a+4+8*c)) != cN 1 (t.take (a+4+8*c))) = !decide (numN ((t++[b]).drop (a+4+8*c))=cN 1 (t.take (a+4+8*c))) by
   rw[Bool.false_or];rfl]
  show ({ m with raw := .bare,wrong := !decide (numN ((t++[b]).drop (a+4+8*c))=cN 1 (t.take (a+4+8*c))),nx := .must [1] .delimited }:PM)=_
  rw[hR,hP]
 ·rw[next_adv hnx (by omega),<- numN_drop_one (by omega)]
  refine .on (by rw[hj,if_neg (by omega)]) (f:=m.f) (l:=m.l) (oR:=m.oR) (oP:=m.oP) rfl ?_ (fun _ h=>h) (fun _ h=>h)
  rw[<- hld,hf,hR,hP]
  have cx:=Cx.c3 (kn:=kn) (t:=t++[b]) a c hB' (by rw[h.len];omega) (by rw[h.len];omega) hc'
  rw[h.len,show 15 - (t.length+1 - (a+4+8*c))=15 - (t.length - (a+4+8*c)) - 1 by omega,hfm,htk] at cx
  exact cx
end Go.Proofs.YtipefblpppmabaaGreatDoor
namespace Go.Proofs.YtipefblpppmabaaGreatDoor
set_option linter.unusedVariables false
set_option linter.unusedSimpArgs false
open Go.RowKit
theorem cx_r1 {kn:Bool} {t:List Nat} {b:Nat} {m:PM} (h:Cm kn t b m) (hnx:m.nx = .num 1 0 .classicOrNot) (hf:m.f=hdR t) (hl:m.l=[]) (hR:m.oR=[2,3]) (hP:m.oP=[1,4]) (h1:t.length=14) (h13:bitG t 13≠1):MOut kn (t++[b]) m (m.next b):=by
 have g13:bitG (t++[b]) 13≠1:=by rw[bitG_more (by omega)];exact h13
 have g14:bitG (t++[b]) 14=b:=bitG_last (by omega)
 have g12:bitG (t++[b]) 12=bitG t 12:=bitG_more (by omega)
 have hb:=h.hb
 have hle:=bitG_le h.ht 12
 have hj:judge kn (t++[b])=if b=1/\bitG t 12=1 then .bad else .on:=by unfold judge;rw[h.len,h1,jd_std (by omega) g13,if_pos rfl,g14,g12]
 rw[next_last hnx]
 have hfr:m.f.R=(bitG t 12==1):=by rw[hf];rfl
 by_cases e:b=0
 ·subst e
  refine .on (by rw[hj,if_neg (by omega)]) (nx := .num 4 0 (.size .cl)) (f:={ m.f with K:=1 }) (l:=m.l) (oR:=[]) (oP:=[1]) rfl ?_ (by simp) (by rw[hP];simp)
  rw[hf,hl]
  have c:=Cx.c1 (kn:=kn) (t:=t++[0]) 15 (.inr ⟨rfl,g13,g14⟩) (by rw[h.len];omega) (by rw[h.len];omega)
  rw[numN_drop_nil (by rw[h.len];omega),h.len,h1,clF_std g13,hdR_more (by omega)] at c
  exact c
 ·have e1:b=1:=by omega
  subst e1
  have hrun:runN .classicOrNot (0*2+1) m=if m.f.R then m.bad 5 else m.num 1 .fdOrXL:=rfl
  rw[hrun,hfr]
  by_cases q:bitG t 12=1
  ·rw[q]
   exact .bad (by rw[hj,if_pos ⟨rfl,q⟩]) rfl
  ·have q0:(bitG t 12==1)=false:=by rw[beq_eq_false_iff_ne];exact q
   rw[q0]
   refine .on (by rw[hj,if_neg (by rintro⟨_,q1⟩;exact q q1)]) (nx := .num 1 0 .fdOrXL) (f:=m.f) (l:=m.l) (oR:=m.oR) (oP:=m.oP) rfl ?_ (fun _ h=>h) (fun _ h=>h)
   rw[hf,hl,hR,hP]
   have c:=Cx.r2 (kn:=kn) (t:=t++[1]) (by rw[h.len,h1]) g13 g14 (by rw[g12];omega)
   rw[hdR_more (by omega)] at c
   exact c
theorem cx_r2 {kn:Bool} {t:List Nat} {b:Nat} {m:PM} (h:Cm kn t b m) (hnx:m.nx = .num 1 0 .fdOrXL) (hf:m.f=hdR t) (hl:m.l=[]) (hR:m.oR=[2,3]) (hP:m.oP=[1,4]) (h1:t.length=15) (h13:bitG t 13≠1) (h14:bitG t 14=1) (h12:bitG t 12=0):MOut kn (t++[b]) m (m.next b):=by
 have g13:bitG (t++[b]) 13≠1:=by rw[bitG_more (by omega)];exact h13
 have g14:bitG (t++[b]) 14=1:=by rw[bitG_more (by omega)];exact h14
 have g12:bitG (t++[b]) 12=0:=by rw[bitG_more (by omega)];exact h12
 have g15:bitG (t++[b]) 15=b:=bitG_last (by omega)
 have hb:=h.hb
 have hj:judge kn (t++[b])=if b=1/\kn=false then .alien else .on:=by unfold judge;rw[h.len,h1,jd_std (by omega) g13,if_neg (by omega),if_neg (by omega),if_pos rfl,g15]
 rw[next_last hnx]
 by_cases e:b=0
 ·subst e
  refine .on (by rw[hj,if_neg (by omega)]) (nx := .num 1 0 (.flag .brs .esi)) (f:={ m.f with K:=2 }) (l:=m.l) (oR:=m.oR) (oP:=[]) rfl ?_ (fun _ h=>h) (by simp)
  rw[hf,hl,hR]
  have c:=Cx.f1 (kn:=kn) (t:=t++[0]) (by rw[h.len,h1]) g13 g14 g15 g12
  rw[hdR_more (by omega)] at c
  exact c
 ·have e1:b=1:=by omega
  subst e1
  have hrun:runN .fdOrXL (0*2+1) m=if m.kn then m.must [0] .headed else m.fin ⟨4,0,noF,[]⟩:=rfl
  rw[hrun,h.kn]
  cases kn with
  | true =>
    refine .on (by rw[hj,if_neg (by simp)]) (nx := .must [0] .headed) (f:=m.f) (l:=m.l) (oR:=m.oR) (oP:=m.oP) rfl ?_ (fun _ h=>h) (fun _ h=>h)
    rw[hf,hl,hR,hP]
    have c:=Cx.l1 (kn:=true) (t:=t++[1]) (by rw[h.len,h1]) g13 g14 g15 g12 rfl
    rw[hdR_more (by omega)] at c
    exact c
  | false =>
    unfold MOut
    rw[hj,if_pos ⟨rfl,rfl⟩]
    rfl
theorem cx_l1 {kn:Bool} {t:List Nat} {b:Nat} {m:PM} (h:Cm kn t b m) (hnx:m.nx = .must [0] .headed) (hf:m.f=hdR t) (hl:m.l=[]) (hR:m.oR=[2,3]) (hP:m.oP=[1,4]) (h1:t.length=16) (h13:bitG t 13≠1) (h14:bitG t 14=1) (h15:bitG t 15=1) (h12:bitG t 12=0):MOut kn (t++[b]) m (m.next b):=by
 have g13:bitG (t++[b]) 13≠1:=by rw[bitG_more (by omega)];exact h13
 have g14:bitG (t++[b]) 14=1:=by rw[bitG_more (by omega)];exact h14
 have g15:bitG (t++[b]) 15=1:=by rw[bitG_more (by omega)];exact h15
 have g16:bitG (t++[b]) 16=b:=bitG_last (by omega)
 have hb:=h.hb
 have hj:judge kn (t++[b])=if b=1 then .bad else .xl:=by unfold judge;rw[h.len,h1,jd_std (by omega) g13,if_neg (by omega),if_neg (by omega),if_neg (by omega),if_neg (by omega),g16]
 rw[next_must hnx]
 by_cases e:b=0
 ·subst e
  unfold MOut
  rw[hj,if_neg (by omega)]
  have:m.mustGo [0] .headed 0={ m with f:={ m.f with K:=3 },raw := .bare,nx := .must [1,0,0,1] .dataPart }:=by simp[PM.mustGo];rfl
  exact⟨by rw[this,hf,hdR_more (by omega)],by rw[bitG_more (by omega)];exact h12,by rw[h.len,h1],by rw[hP];simp,hl⟩
 ·exact .bad (by rw[hj,if_pos (by omega)]) (by simp[PM.mustGo,e])
theorem jd_fd {kn:Bool} {t:List Nat} (hn:17<=t.length) (h13:bitG t 13≠1) (h14:bitG t 14=1) (h15:bitG t 15=0):judge kn t=if t.length < 22 then .on else if t.length=22+8*fdN t then .fd else .on:=by
 unfold judge
 rw[jd_std (by omega) h13,if_neg (by omega),if_neg (by omega),if_neg (by omega),if_pos h15]
 rfl
theorem cx_f1 {kn:Bool} {t:List Nat} {b:Nat} {m:PM} (h:Cm kn t b m) (hnx:m.nx = .num 1 0 (.flag .brs .esi)) (hf:m.f={ hdR t with K:=2 }) (hl:m.l=[]) (hR:m.oR=[2,3]) (hP:m.oP=[]) (h1:t.length=16) (h13:bitG t 13≠1) (h14:bitG t 14=1) (h15:bitG t 15=0) (h12:bitG t 12=0):MOut kn (t++[b]) m (m.next b):=by
 have g13:bitG (t++[b]) 13≠1:=by rw[bitG_more (by omega)];exact h13
 have g14:bitG (t++[b]) 14=1:=by rw[bitG_more (by omega)];exact h14
 have g15:bitG (t++[b]) 15=0:=by rw[bitG_more (by omega)];exact h15
 have g12:bitG (t++[b]) 12=0:=by rw[bitG_more (by omega)];exact h12
 have hj:judge kn (t++[b]) = .on:=by rw[jd_fd (by rw[h.len];omega) g13 g14 g15,if_pos (by rw[h.len];omega)]
 rw[next_last hnx]
 refine .on hj (nx := .num 1 0 (.flag .esi .fdSize)) (f:={ m.f with B:=0*2+b==1 }) (l:=m.l) (oR:=m.oR) (oP:=m.oP) rfl ?_ (fun _ h=>h) (fun _ h=>h)
 rw[hf,hl,hR,hP,beq_bit h.hb (bitG (t++[b]) 16) (bitG_last (by omega))]
 have c:=Cx.f2 (kn:=kn) (t:=t++[b]) (by rw[h.len,h1]) g13 g14 g15 g12
 rw[hdR_more (by omega)] at c
 exact c
theorem cx_f2 {kn:Bool} {t:List Nat} {b:Nat} {m:PM} (h:Cm kn t b m) (hnx:m.nx = .num 1 0 (.flag .esi .fdSize)) (hf:m.f={ hdR t with K:=2,B:=bitG t 16==1 }) (hl:m.l=[]) (hR:m.oR=[2,3]) (hP:m.oP=[]) (h1:t.length=17) (h13:bitG t 13≠1) (h14:bitG t 14=1) (h15:bitG t 15=0) (h12:bitG t 12=0):MOut kn (t++[b]) m (m.next b):=by
 have g13:bitG (t++[b]) 13≠1:=by rw[bitG_more (by omega)];exact h13
 have g14:bitG (t++[b]) 14=1:=by rw[bitG_more (by omega)];exact h14
 have g15:bitG (t++[b]) 15=0:=by rw[bitG_more (by omega)];exact h15
 have g12:bitG (t++[b]) 12=0:=by rw[bitG_more (by omega)];exact h12
 have hj:judge kn (t++[b]) = .on:=by rw[jd_fd (by rw[h.len];omega) g13 g14 g15,if_pos (by rw[h.len];omega)]
 rw[next_last hnx]
 refine .on hj (nx := .num 4 0 (.size .sized)) (f:={ m.f with E:=0*2+b==1 }) (l:=m.l) (oR:=m.oR) (oP:=m.oP) rfl ?_ (fun _ h=>h) (fun _ h=>h)
 rw[hf,hl,hR,hP,beq_bit h.hb (bitG (t++[b]) 17) (bitG_last (by omega))]
 have c:=Cx.f3 (kn:=kn) (t:=t++[b]) (by rw[h.len];omega) (by rw[h.len];omega) g13 g14 g15 g12
 rw[numN_drop_nil (by rw[h.len];omega),h.len,h1] at c
 have e:fdF (t++[b])={ hdR t with K:=2,B:=bitG t 16==1,E:=bitG (t++[b]) 17==1 }:=by
  unfold fdF hdR hdS idN
  rw[cut_more (by omega),bitG_more (i:=16) (by omega),h12]
  rfl
 rw[e] at c
 exact c
theorem fdF_more {t:List Nat} {b:Nat} (h:18<=t.length):fdF (t++[b])=fdF t:=by unfold fdF;rw[cut_more (by omega),bitG_more (by omega),bitG_more (by omega)]
theorem fdN_more {t:List Nat} {b:Nat} (h:22<=t.length):fdN (t++[b])=fdN t:=by unfold fdN;rw[num4_more (by omega)]
theorem size2 {v:Nat} (h:v < 16):sizeE 2 (v:Nat)=0/\sizeV 2 (v:Nat)=atF 2 v:=by
 have e:isC 2 (v:Nat)=true:=by
  unfold isC
  rw[show cntF 2=16 from rfl]
  simp
  omega
 exact⟨by unfold sizeE;rw[e,if_pos rfl],by unfold sizeV;rw[e,if_pos rfl,Int.toNat_natCast]⟩
theorem fd_out {kn:Bool} {t':List Nat} {m:PM} {k:Nat} {l:List Nat} (hj:judge kn t' = .fd) (hk:k=kindD (fdN t')) (hf:m.f=fdF t') (hl:l=fdD t') (hmem:k∈m.oR) (m':PM) (hm:m'={ m with l:=l,oR:=[k] }):MOut kn t' m (run0 (.fixd k) m'):=by
 unfold MOut
 rw[hj]
 subst hm hk hl
 refine⟨?_,hmem⟩
 show ({ m with l:=fdD t',oR:=[kindD (fdN t')],raw := .spaced,every:=4,since:=4,oP:=[kindD (fdN t')],nx := .num 4 0 (.check (numN (tallyL m.stuffs)) (.sumFd (kindD (fdN t')))) }:PM)=_
 rw[<- hf]
theorem cx_f3 {kn:Bool} {t:List Nat} {b:Nat} {m:PM} (h:Cm kn t b m) (hnx:m.nx = .num (22 - t.length) (numN (t.drop 18)) (.size .sized)) (hf:m.f=fdF t) (hl:m.l=[]) (hR:m.oR=[2,3]) (hP:m.oP=[]) (h1:18<=t.length) (h2:t.length < 22) (h13:bitG t 13≠1) (h14:bitG t 14=1) (h15:bitG t 15=0) (h12:bitG t 12=0):MOut kn (t++[b]) m (m.next b):=by
 have g13:bitG (t++[b]) 13≠1:=by rw[bitG_more (by omega)];exact h13
 have g14:bitG (t++[b]) 14=1:=by rw[bitG_more (by omega)];exact h14
 have g15:bitG (t++[b]) 15=0:=by rw[bitG_more (by omega)];exact h15
 have g12:bitG (t++[b]) 12=0:=by rw[bitG_more (by omega)];exact h12
 have hj:=jd_fd (kn:=kn) (t:=t++[b]) (by rw[h.len];omega) g13 g14 g15
 have hfm:=fdF_more (b:=b) h1
 by_cases e:t.length=21
 ·rw[e] at hnx
  rw[next_last hnx,<- numN_drop_one (by omega),numN_four (by rw[h.len];omega)]
  rw[h.len,e,if_neg (by omega)] at hj
  have hc16:=num4_lt h.ht' 18
  have hN:fdN (t++[b])=atF 2 (num4 (bitG (t++[b])) 18):=rfl
  obtain⟨z1,z2⟩:=size2 hc16
  have hrun:runN (.size .sized) (num4 (bitG (t++[b])) 18) m=PM.data { m with oR:=[kindD (fdN (t++[b]))] } (fdN (t++[b])) (.fixd (kindD (fdN (t++[b])))):=by
   show (if sizeE m.f.K _≠0\/(m.f.R=true/\sizeV m.f.K _≠0) then m.bad 5 else runZ .sized (sizeV m.f.K _) m)=_
   rw[hf,show (fdF t).K=2 from rfl,z1,z2,if_neg (by rintro (q | ⟨q,_⟩);exact q rfl;cases q),<- hN,<- hf]
   rfl
  rw[hrun]
  generalize hn:fdN (t++[b])=N at *
  have hsub:∀ k∈[kindD N],k∈m.oR:=by
   rw[hR]
   intro k hk
   have:=List.mem_singleton.1 hk
   subst this
   unfold kindD
   split<;>simp
  by_cases q0:N=0
  ·have:PM.data { m with oR:=[kindD N] } N (.fixd (kindD N))=run0 (.fixd (kindD N)) { m with oR:=[kindD N] }:=by unfold PM.data;rw[if_pos q0]
   rw[this]
   refine fd_out (by rw[hj,if_pos (by omega)]) (by rw[hn]) (by rw[hf,hfm]) (l:=m.l) ?_ (hsub _ (by simp)) _ rfl
   rw[hl]
   unfold fdD
   rw[List.drop_eq_nil_of_le (by rw[h.len];omega)]
   rfl
  ·refine .on (by rw[hj,if_neg (by omega)]) (nx := .num 8 0 (.data N (.fixd (kindD N)))) (f:=m.f) (l:=m.l) (oR:=[kindD N]) (oP:=m.oP) (by unfold PM.data;rw[if_neg q0];rfl) ?_ hsub (fun _ h=>h)
   rw[hf,hl,hP]
   have c:=Cx.f4 (kn:=kn) (t:=t++[b]) 0 N (by rw[h.len];omega) (by rw[h.len];omega) g13 g14 g15 g12 hn (by omega)
   rw[numN_drop_nil (by rw[h.len];omega),h.len,hfm,List.drop_eq_nil_of_le (by rw[h.len];omega),show 8 - (t.length+1 - (22+8*0))=8 by omega] at c
   exact c
 ·rw[next_adv hnx (by omega),<- numN_drop_one (by omega)]
  refine .on (by rw[hj,if_pos (by rw[h.len];omega)]) (f:=m.f) (l:=m.l) (oR:=m.oR) (oP:=m.oP) rfl ?_ (fun _ h=>h) (fun _ h=>h)
  rw[hf,hl,hR,hP]
  have c:=Cx.f3 (kn:=kn) (t:=t++[b]) (by rw[h.len];omega) (by rw[h.len];omega) g13 g14 g15 g12
  rw[h.len,show 22 - (t.length+1)=22 - t.length - 1 by omega,hfm] at c
  exact c
theorem cx_f4 {kn:Bool} {t:List Nat} {b:Nat} {m:PM} (h:Cm kn t b m) (j c:Nat) (hnx:m.nx = .num (8 - (t.length - (22+8*j))) (numN (t.drop (22+8*j))) (.data (c - j) (.fixd (kindD c)))) (hf:m.f=fdF t) (hl:m.l=packN (t.drop 22)) (hR:m.oR=[kindD c]) (hP:m.oP=[]) (h1:22+8*j<=t.length) (h2:t.length < 22+8*j+8) (h13:bitG t 13≠1) (h14:bitG t 14=1) (h15:bitG t 15=0) (h12:bitG t 12=0) (hc:fdN t=c) (hjc:j < c):MOut kn (t++[b]) m (m.next b):=by
 have g13:bitG (t++[b]) 13≠1:=by rw[bitG_more (by omega)];exact h13
 have g14:bitG (t++[b]) 14=1:=by rw[bitG_more (by omega)];exact h14
 have g15:bitG (t++[b]) 15=0:=by rw[bitG_more (by omega)];exact h15
 have g12:bitG (t++[b]) 12=0:=by rw[bitG_more (by omega)];exact h12
 have hfm:=fdF_more (b:=b) (t:=t) (by omega)
 have hnm:fdN (t++[b])=c:=by rw[fdN_more (by omega),hc]
 have hj:=jd_fd (kn:=kn) (t:=t++[b]) (by rw[h.len];omega) g13 g14 g15
 rw[h.len,if_neg (by omega),hnm] at hj
 by_cases e:t.length=22+8*j+7
 ·rw[show 8 - (t.length - (22+8*j))=1 by omega] at hnx
  rw[next_last hnx,<- numN_drop_one (by omega)]
  have hl':m.l++[numN ((t++[b]).drop (22+8*j))%256]=packN ((t++[b]).drop 22):=by
   rw[byte_lt h.ht' (by rw[h.len];omega),hl,packN_more (a:=22) (n:=j) (by omega)]
  have hrun:runN (.data (c - j) (.fixd (kindD c))) (numN ((t++[b]).drop (22+8*j))) m=PM.data { m with l:=packN ((t++[b]).drop 22) } (c - j - 1) (.fixd (kindD c)):=by
   rw[<- hl'];rfl
  rw[hrun]
  by_cases q0:c - j - 1=0
  ·have:PM.data { m with l:=packN ((t++[b]).drop 22) } (c - j - 1) (.fixd (kindD c))=run0 (.fixd (kindD c)) { m with l:=packN ((t++[b]).drop 22) }:=by unfold PM.data;rw[if_pos q0]
   rw[this]
   exact fd_out (by rw[hj,if_pos (by omega)]) (by rw[hnm]) (by rw[hf,hfm]) (l:=packN ((t++[b]).drop 22)) rfl (by rw[hR];simp) _ (by rw[<- hR])
  ·refine .on (by rw[hj,if_neg (by omega)]) (nx := .num 8 0 (.data (c - j - 1) (.fixd (kindD c)))) (f:=m.f) (l:=packN ((t++[b]).drop 22)) (oR:=m.oR) (oP:=m.oP) (by unfold PM.data;rw[if_neg q0];rfl) ?_ (fun _ h=>h) (fun _ h=>h)
   rw[hf,hR,hP]
   have cx:=Cx.f4 (kn:=kn) (t:=t++[b]) (j+1) c (by rw[h.len];omega) (by rw[h.len];omega) g13 g14 g15 g12 hnm (by omega)
   rw[numN_drop_nil (by rw[h.len];omega),h.len,hfm,show 8 - (t.length+1 - (22+8*(j+1)))=8 by omega,show c - (j+1)=c - j - 1 by omega] at cx
   exact cx
 ·rw[next_adv hnx (by omega),<- numN_drop_one (by omega)]
  refine .on (by rw[hj,if_neg (by omega)]) (f:=m.f) (l:=m.l) (oR:=m.oR) (oP:=m.oP) rfl ?_ (fun _ h=>h) (fun _ h=>h)
  rw[hf,hl,hR,hP]
  have cx:=Cx.f4 (kn:=kn) (t:=t++[b]) j c (by rw[h.len];omega) (by rw[h.len];omega) g13 g14 g15 g12 hnm hjc
  rw[h.len,show 8 - (t.length+1 - (22+8*j))=8 - (t.length - (22+8*j)) - 1 by omega,hfm,packN_same (by omega) (by omega)] at cx
  exact cx
theorem cx_step {kn:Bool} {t:List Nat} {b:Nat} {m:PM} (h:Cm kn t b m) (hc:Cx kn t m.nx m.f m.l m.oR m.oP):MOut kn (t++[b]) m (m.next b):=by
 generalize hnx:m.nx=nx at hc
 generalize hf:m.f=f at hc
 generalize hl:m.l=l at hc
 generalize hR:m.oR=oR at hc
 generalize hP:m.oP=oP at hc
 cases hc with
 | s0 h0=>exact cx_s0 h hnx hf hl hR hP h0
 | s1 h1 h2=>exact cx_s1 h hnx hf hl hR hP h1 h2
 | s2 h1 h2=>exact cx_s2 h hnx hf hl hR hP h1 h2
 | x1 h1 h2 h3=>exact cx_x h hnx hf hl hR hP h1 h2 h3
 | x2 h1 h2=>exact cx_x2 h hnx hf hl hR hP h1 h2
 | x3 h1 h2=>exact cx_x3 h hnx hf hl hR hP h1 h2
 | x4 h1 h2=>exact cx_x4 h hnx hf hl hR hP h1 h2
 | c1 a h1 h2 h3=>exact cx_c1 h a hnx hf hl hR hP h1 h2 h3
 | c2 a j c h1 h2 h3 h4 h5=>exact cx_c2 h a j c hnx hf hl hR hP h1 h2 h3 h4 h5
 | c3 a c h1 h2 h3 h4=>exact cx_c3 h a c hnx hf hl hR hP h1 h2 h3 h4
 | r1 h1 h2=>exact cx_r1 h hnx hf hl hR hP h1 h2
 | r2 h1 h2 h3 h4=>exact cx_r2 h hnx hf hl hR hP h1 h2 h3 h4
 | l1 h1 h2 h3 h4 h5 h6=>exact cx_l1 h hnx hf hl hR hP h1 h2 h3 h4 h5
 | f1 h1 h2 h3 h4 h5=>exact cx_f1 h hnx hf hl hR hP h1 h2 h3 h4 h5
 | f2 h1 h2 h3 h4 h5=>exact cx_f2 h hnx hf hl hR hP h1 h2 h3 h4 h5
 | f3 h1 h2 h3 h4 h5 h6=>exact cx_f3 h hnx hf hl hR hP h1 h2 h3 h4 h5 h6
 | f4 j c h1 h2 h3 h4 h5 h6 h7 h8=>exact cx_f4 h j c hnx hf hl hR hP h1 h2 h3 h4 h5 h6 h7 h8
end Go.Proofs.YtipefblpppmabaaGreatDoor
namespace Go.Proofs.YtipefblpppmabaaGreatDoor
set_option linter.unusedVariables false
set_option linter.unusedSimpArgs false
open Go.RowKit
theorem feed_out {ks:List Nat} {k b:Nat}:∀ {re:Nat->Nat},k∉ks->feedF re ks b k=re k:=by
 induction ks with
 | nil=>intro re _;rfl
 | cons j ks ih =>
   intro re h
   have h1:k≠j:=fun e=>h (by rw[e];exact List.mem_cons_self ..)
   have h2:k∉ks:=fun e=>h (List.mem_cons_of_mem _ e)
   show feedF (updF re j _) ks b k=_
   rw[ih h2]
   exact if_neg h1
theorem feed_in {ks:List Nat} {k b:Nat}:∀ {re:Nat->Nat},ks.Nodup->k∈ks->feedF re ks b k=stepC (szK (k:Nat)) (polyK (k:Nat)) (re k) b:=by
 induction ks with
 | nil=>intro re _ h;cases h
 | cons j ks ih =>
   intro re hn h
   have hn':=List.nodup_cons.1 hn
   show feedF (updF re j (stepC (szK (j:Nat)) (polyK (j:Nat)) (re j) b)) ks b k=_
   by_cases e:k=j
   ·subst e
    rw[feed_out hn'.1]
    exact if_pos rfl
   ·rw[ih hn'.2 (by rcases List.mem_cons.1 h with h | h;exact absurd h e;exact h)]
    rw[show updF re j (stepC (szK (j:Nat)) (polyK (j:Nat)) (re j) b) k=re k from if_neg e]
def KdP (ks:List Nat):Prop:=∀ k∈ks,1<=k/\k<=5
structure KK (m:PM):Prop where
 r:KdP m.oR
 p:KdP m.oP
 lr:m.oR.length<=2
 lp:m.oP.length<=2
theorem Cx.kinds {kn:Bool} {t:List Nat} {nx:Nx} {f:Hd} {l oR oP:List Nat} (h:Cx kn t nx f l oR oP):(oR=[2,3]\/oR=[]\/oR=[2]\/oR=[3])/\(oP=[1,4]\/oP=[1]\/oP=[])/\nx ≠ .none:=by
 cases h with
 | f4 j c h1 h2 h3 h4 h5 h6 h7 h8 =>
   refine⟨?_,by simp,by simp⟩
   unfold kindD
   split<;>simp
 | _=>exact⟨by simp,by simp,by simp⟩
structure Dy (kn:Bool) (x:List Nat) (m:PM):Prop where
 raw:m.raw = .stuffed
 last:m.last=lastB x
 alike:m.alike=(runS x).2
 run5:(runS x).2<=5
 stuffs:m.stuffs=x.length - (tell x).length
 wr:m.wrong=false
 cx:Cx kn (tell x) m.nx m.f m.l m.oR m.oP
 sR:∀ k∈m.oR,m.re k=cN k x
 sP:∀ k∈m.oP,m.re k=cN k (tell x)
 s5:m.re 5=startK 5
def sinceF (E:Nat) (A:Bool) (s:FxS):Nat:=if s.last then 0 else if s.out.length=0 then (if A then E else 0) else (s.out.length - 1)%E+1
def fxS (h y:List Nat):FxS:=fgS 4 true (lastB h) y
structure Fx (h y:List Nat) (m:PM):Prop where
 raw:m.raw = .spaced
 every:m.every=4
 since:m.since=sinceF 4 true (fxS h y)
 last:m.last=lastP (lastB h) y
 f:m.f=fdF (tell h)
 l:m.l=fdD (tell h)
 oP:m.oP=[kindD (fdN (tell h))]
 re:m.re (kindD (fdN (tell h)))=cN (kindD (fdN (tell h))) (h++(fxS h y).out)
 ok:(fxS h y).ok=true
 len:y.length < fdM h
 nxt:((fxS h y).out.length < 4/\m.nx = .num (4 - (fxS h y).out.length) (numN (fxS h y).out) (.check (numN (tallyL (h.length - (tell h).length))) (.sumFd (kindD (fdN (tell h)))))/\m.wrong=false) \/
  (4<=(fxS h y).out.length/\m.nx = .num (szK (kindD (fdN (tell h)):Nat)+4 - (fxS h y).out.length) (numN ((fxS h y).out.drop 4)) (.check (cN (kindD (fdN (tell h))) (h++(fxS h y).out.take 4)) .tail)/\m.wrong = !decide ((fxS h y).out.take 4=tallyL (h.length - (tell h).length)))
structure Xs (h y:List Nat) (m:PM):Prop where
 raw:m.raw = .bare
 f:m.f={ hdR (tell h) with K:=3 }
 f12:bitG (tell h) 12=0
 l:m.l=[]
 stuffs:m.stuffs=h.length - 17
 wr:m.wrong=false
 len:y.length<=3
 nx:m.nx = .must (startX.drop y.length) .dataPart
 s4:m.re 4=cN 4 (tell h)
 s5:m.re 5=startK 5
structure Tl (ok:Bool) (f:Hd) (l t:List Nat) (m:PM):Prop where
 raw:m.raw = .bare
 f:m.f=f
 l:m.l=l
 wr:m.wrong = !ok
 len:t.length<=8
 nx:(t.length=0/\m.nx = .must [1] .delimited)\/(t.length=1/\m.nx = .slot)\/(t.length=2/\m.nx = .behind)\/(3<=t.length/\m.nx = .must (ones (9 - t.length)) .done/\ok=true)
structure Xe (h y z:List Nat) (m:PM):Prop where
 raw:m.raw = .bare
 f:m.f=xlF (tell h) (xo y)
 l:m.l=xlD (xo y)
 wr:m.wrong = !xlFits h y
 len:z.length<=3
 nx:m.nx = .must (stopX.drop z.length) .tail
theorem runS_le {x:List Nat} {b:Nat} (h5:(runS x).2<=5) (h:¬((runS x).2=5/\b=lastB x)):(runS (x++[b])).2<=5:=by
 rw[runS_snoc]
 unfold stepR
 by_cases e:b=(runS x).1
 ·rw[if_pos e]
  have:¬(runS x).2=5:=fun q=>h ⟨q,e⟩
  show (runS x).2+1<=5
  omega
 ·rw[if_neg e];show 1<=5;omega
theorem add_line {x:List Nat} {b:Nat} {m:PM} (hl:m.last=lastB x) (ha:m.alike=(runS x).2):(m.add b).last=lastB (x++[b])/\(m.add b).alike=(runS (x++[b])).2:=by
 refine⟨by rw[lastB_snoc];rfl,?_⟩
 show (if b=m.last then m.alike+1 else 1)=_
 rw[runS_snoc,hl,ha]
 unfold stepR lastB
 by_cases e:b=(runS x).1
 ·rw[if_pos e,if_pos e]
 ·rw[if_neg e,if_neg e]
theorem dy_bit {kn:Bool} {x:List Nat} {b:Nat} {m:PM} (h:Dy kn x m) (hkn:m.kn=kn) (hx:∀ z∈x,z<=1) (hb:b<=1) (hlen:x.length+1<=65536) (hf:full x=false) :
    ∃ m1:PM,m.step b=m1.next b/\MOut kn (tell x++[b]) m1 (m1.next b)/\m1.raw = .stuffed/\m1.last=lastB (x++[b])/\m1.alike=(runS (x++[b])).2/\(runS (x++[b])).2<=5/\m1.stuffs=(x++[b]).length - (tell x++[b]).length/\m1.wrong=false /\
     m1.oR=m.oR/\m1.oP=m.oP/\(∀ k∈m.oR,m1.re k=cN k (x++[b]))/\(∀ k∈m.oP,m1.re k=cN k (tell x++[b]))/\m1.re 5=startK 5/\m1.kn=kn/\m1.is=m.is:=by
 have h5:¬m.alike=5:=by
  rw[h.alike]
  intro e
  unfold full at hf
  rw[e] at hf
  simp at hf
 obtain⟨kR,kP,_⟩:=h.cx.kinds
 have nR:m.oR.Nodup:=by rcases kR with e | e | e | e<;>rw[e]<;>decide
 have nP:m.oP.Nodup:=by rcases kP with e | e | e<;>rw[e]<;>decide
 have dis:∀ k∈m.oR,k∉m.oP:=by
  rcases kR with e | e | e | e<;>rcases kP with e' | e' | e'<;>rw[e,e']<;>decide
 have n5:5∉m.oR/\5∉m.oP:=by
  rcases kR with e | e | e | e<;>rcases kP with e' | e' | e'<;>rw[e,e']<;>decide
 obtain⟨a1,a2⟩:=add_line (b:=b) h.last h.alike
 have sP':∀ k∈m.oP,feedF (feedF m.re m.oR b) m.oP b k=cN k (tell x++[b]):=by
  intro k hk
  rw[feed_in nP hk,feed_out (fun hr=>dis k hr hk),h.sP k hk,cN_snoc]
 have sR':∀ k∈m.oR,feedF (feedF m.re m.oR b) m.oP b k=cN k (x++[b]):=by
  intro k hk
  rw[feed_out (dis k hk),feed_in nR hk,h.sR k hk,cN_snoc]
 have hst:m.step b=PM.next { m.add b with re:=feedF (feedF m.re m.oR b) m.oP b } b:=by
  unfold PM.step
  rw[h.raw]
  exact if_neg h5
 have htl:=tell_len x
 refine⟨{ m.add b with re:=feedF (feedF m.re m.oR b) m.oP b },hst,cx_step ⟨hkn,h.wr,tell_bit hx,hb,sP',by omega⟩ h.cx,h.raw,a1,a2,runS_le h.run5 (fun e=>h5 (by rw[h.alike];exact e.1)),?_,h.wr,rfl,rfl,sR',sP',?_,hkn,rfl⟩
 ·show m.stuffs=_
  rw[h.stuffs,List.length_append,List.length_append]
  simp
 ·show feedF (feedF m.re m.oR b) m.oP b 5=_
  rw[feed_out n5.2,feed_out n5.1,h.s5]
theorem dy_stuff {kn:Bool} {x:List Nat} {b:Nat} {m:PM} (h:Dy kn x m) (hf:full x=true) (hq:b≠lastB x):Dy kn (x++[b]) (m.step b)/\(m.step b).is=m.is/\(m.step b).kn=m.kn/\(m.step b).oR=m.oR/\(m.step b).oP=m.oP:=by
 have h5:m.alike=5:=by
  have:5<=(runS x).2:=by unfold full at hf;simpa using hf
  rw[h.alike]
  have:=h.run5
  omega
 have hst:m.step b={ m.add b with re:=feedF m.re m.oR b,stuffs:=m.stuffs+1 }:=by
  unfold PM.step
  rw[h.raw]
  show (if m.alike=5 then _ else _)=_
  rw[if_pos h5,if_neg (by rw[h.last];exact hq)]
 obtain⟨kR,kP,_⟩:=h.cx.kinds
 have nR:m.oR.Nodup:=by rcases kR with e | e | e | e<;>rw[e]<;>decide
 have dis:∀ k∈m.oP,k∉m.oR:=by
  rcases kR with e | e | e | e<;>rcases kP with e' | e' | e'<;>rw[e,e']<;>decide
 have n5:5∉m.oR:=by
  rcases kR with e | e | e | e<;>rw[e]<;>decide
 obtain⟨a1,a2⟩:=add_line (b:=b) h.last h.alike
 have ht:tell (x++[b])=tell x:=by rw[tell_snoc,hf,if_pos rfl]
 have htl:=tell_len x
 rw[hst]
 refine⟨⟨h.raw,a1,a2,runS_le h.run5 (fun e=>hq e.2),?_,h.wr,by rw[ht];exact h.cx,fun k hk => ?_,fun k hk => ?_,?_⟩,rfl,rfl,rfl,rfl⟩
 ·show m.stuffs+1=_
  rw[ht,h.stuffs,List.length_append,List.length_singleton]
  omega
 ·show feedF m.re m.oR b k=_
  rw[feed_in nR hk,h.sR k hk,cN_snoc]
 ·show feedF m.re m.oR b k=_
  rw[ht,feed_out (dis k hk),h.sP k hk]
 ·show feedF m.re m.oR b 5=_
  rw[feed_out n5,h.s5]
theorem dy_bad {kn:Bool} {x:List Nat} {b:Nat} {m:PM} (h:Dy kn x m) (hf:full x=true) (hq:b=lastB x):m.step b=m.bad 4:=by
 have h5:m.alike=5:=by
  have:5<=(runS x).2:=by unfold full at hf;simpa using hf
  rw[h.alike]
  have:=h.run5
  omega
 unfold PM.step
 rw[h.raw]
 show (if m.alike=5 then _ else _)=_
 rw[if_pos h5,if_pos (by rw[h.last];exact hq)]
theorem fg_last {E:Nat} {A:Bool} {p:Nat} (y:List Nat):(fgS E A p y).last=true->dueF E A (fgS E A p y).out.length=true/\(fgS E A p y).due=false:=by
 refine snocInd (P:=fun y=>(fgS E A p y).last=true->dueF E A (fgS E A p y).out.length=true/\(fgS E A p y).due=false) (fun h=>by cases h) (fun y b _ h => ?_) y
 have hd:=fgS_due E A p y
 rw[fgS_snoc] at h ⊢
 unfold fgStep at h ⊢
 simp only at h ⊢
 rw[h] at hd ⊢
 have:=hd.symm
 rw[Bool.and_eq_true] at this
 exact⟨by simpa using this.2,rfl⟩
theorem since_due {E:Nat} (hE:E=4\/E=8) (A:Bool) (p:Nat) (y:List Nat):sinceF E A (fgS E A p y)=E↔(fgS E A p y).due=true:=by
 have hd:=fgS_due E A p y
 rw[hd]
 unfold sinceF dueF
 generalize (fgS E A p y).out.length=o
 generalize (fgS E A p y).last=ls
 cases ls with
 | true=>simp;omega
 | false =>
   by_cases h0:o=0
   ·subst h0
    cases A<;>simp<;>omega
   ·rcases hE with rfl | rfl<;>simp[h0]<;>omega
theorem since_step {E:Nat} (hE:E=4\/E=8) (A:Bool) (p:Nat) (y:List Nat) (b:Nat):sinceF E A (fgS E A p (y++[b]))=if (fgS E A p y).due then 0 else sinceF E A (fgS E A p y)+1:=by
 have hd:=fgS_due E A p y
 have hl:=fg_last (E:=E) (A:=A) (p:=p) y
 rw[fgS_snoc]
 unfold fgStep sinceF
 cases hq:(fgS E A p y).due with
 | true=>simp
 | false =>
   simp only[Bool.false_eq_true,if_false,List.length_append,List.length_singleton]
   rw[hq] at hd
   unfold dueF at hd hl
   generalize (fgS E A p y).out.length=o at *
   cases hls:(fgS E A p y).last with
   | true =>
     rw[hls] at hl
     have h2:=(hl rfl).1
     rw[if_pos rfl,if_neg (by omega)]
     by_cases h0:o=0
     ·subst h0;simp
     ·rw[if_neg h0] at h2
      have:=of_decide_eq_true h2
      rw[show o+1 - 1=o by omega,this]
   | false =>
     rw[hls] at hd
     simp only[Bool.not_false,Bool.true_and] at hd
     rw[if_neg (by omega),if_neg (by simp)]
     by_cases h0:o=0
     ·subst h0
      rw[if_pos rfl] at hd
      rw[<- hd]
      simp
     ·rw[if_neg h0] at hd
      have:=of_decide_eq_false hd.symm
      rw[if_neg h0]
      rcases hE with rfl | rfl<;>omega
theorem fg_length {E:Nat} (hE:E=4\/E=8) (A:Bool) (p:Nat) (y:List Nat):y.length=szF E A (fgS E A p y).out.length+(if (fgS E A p y).last then 1 else 0):=by
 refine snocInd (P:=fun y=>y.length=szF E A (fgS E A p y).out.length+(if (fgS E A p y).last then 1 else 0)) rfl (fun y b ih => ?_) y
 have hd:=fgS_due E A p y
 have hl:=fg_last (E:=E) (A:=A) (p:=p) y
 rw[List.length_append,List.length_singleton,fgS_snoc]
 unfold fgStep
 simp only
 cases hq:(fgS E A p y).due with
 | true =>
   rw[hq] at hd
   have:(fgS E A p y).last=false:=by
    have:=hd.symm
    rw[Bool.and_eq_true,Bool.not_eq_true'] at this
    exact this.1
   rw[this] at ih
   simp at ih ⊢
   exact ih
 | false =>
   simp only[Bool.false_eq_true,if_false,List.length_append,List.length_singleton,Nat.add_zero]
   rw[hq] at hd
   unfold dueF at hd hl
   generalize (fgS E A p y).out.length=o at *
   unfold szF at ih ⊢
   rw[if_neg (by omega:¬o+1=0),show o+1 - 1=o by omega]
   cases hls:(fgS E A p y).last with
   | true =>
     rw[hls] at hl ih
     have h2:=(hl rfl).1
     rw[if_pos rfl] at ih
     by_cases h0:o=0
     ·subst h0
      rw[if_pos rfl] at h2
      subst h2
      rw[if_pos rfl] at ih
      simp
      omega
     ·rw[if_neg h0] at h2 ih
      have:=of_decide_eq_true h2
      rcases hE with rfl | rfl<;>omega
   | false =>
     rw[hls] at hd ih
     simp only[Bool.not_false,Bool.true_and] at hd
     rw[if_neg (by simp:¬(false=true))] at ih
     by_cases h0:o=0
     ·subst h0
      rw[if_pos rfl] at hd ih
      rw[<- hd,ih]
      rcases hE with rfl | rfl<;>rfl
     ·rw[if_neg h0] at hd ih
      have:=of_decide_eq_false hd.symm
      rcases hE with rfl | rfl<;>omega
end Go.Proofs.YtipefblpppmabaaGreatDoor
namespace Go.Proofs.YtipefblpppmabaaGreatDoor
set_option linter.unusedVariables false
set_option linter.unusedSimpArgs false
open Go.RowKit
theorem spaced_bad {m:PM} (hr:m.raw = .spaced) {b:Nat} (hd:m.since=m.every) (hq:b=m.last):m.step b=m.bad 4:=by
 unfold PM.step
 rw[hr]
 show (if m.since=m.every then _ else _)=_
 rw[if_pos hd,if_pos hq]
theorem spaced_due {m:PM} (hr:m.raw = .spaced) {b:Nat} (hd:m.since=m.every) (hq:b≠m.last):m.step b={ m.add b with since:=0 }:=by
 unfold PM.step
 rw[hr]
 show (if m.since=m.every then _ else _)=_
 rw[if_pos hd,if_neg hq]
theorem spaced_bit {m:PM} (hr:m.raw = .spaced) {b:Nat} (hd:m.since≠m.every):m.step b=PM.next { m.add b with since:=m.since+1,re:=feedF m.re m.oP b } b:=by
 unfold PM.step
 rw[hr]
 exact if_neg hd
theorem num_inj {l l':List Nat} (h:∀ x∈l,x<=1) (h':∀ x∈l',x<=1) (hl:l.length=l'.length):(numN l=numN l')↔l=l':=by
 constructor
 ·intro e
  have h1:=bitsN_numN l h
  have h2:=bitsN_numN l' h'
  rw[<- h1,<- h2,e,hl]
 ·rintro rfl;rfl
theorem fx_len {h:List Nat} {n:Nat} (hn:n=kindD (fdN (tell h))):szK (n:Nat)=(if 16 < fdN (tell h) then 21 else 17)/\fdM h=szF 4 true (szK (n:Nat)+4):=by
 subst hn
 unfold kindD fdM
 split
 ·exact⟨rfl,rfl⟩
 ·exact⟨rfl,rfl⟩
theorem fx_step {h y:List Nat} {b:Nat} {m:PM} (F:Fx h y m) (hh:∀ z∈h,z<=1) (hy:∀ z∈y,z<=1) (hb:b<=1) (hlen:h.length+y.length+1<=65536) :
    ((fxS h (y++[b])).ok=false->m.step b=m.bad 4) /\
    ((fxS h (y++[b])).ok=true->(y++[b]).length=fdM h->Tl (fdFits h (y++[b])) (fdF (tell h)) (fdD (tell h)) [] (m.step b)/\(m.step b).is=m.is/\(m.step b).kn=m.kn/\(m.step b).oR=m.oR/\(m.step b).oP=m.oP) /\
    ((fxS h (y++[b])).ok=true->(y++[b]).length≠fdM h->Fx h (y++[b]) (m.step b)/\(m.step b).is=m.is/\(m.step b).kn=m.kn/\(m.step b).oR=m.oR/\(m.step b).oP=m.oP):=by
 have hprev:=fgS_prev 4 true (lastB h) y
 have hsd:=since_due (E:=4) (.inl rfl) true (lastB h) y
 have hss:=since_step (E:=4) (.inl rfl) true (lastB h) y b
 have hfl:=fg_length (E:=4) (.inl rfl) true (lastB h) (y++[b])
 have hob:=fgS_bit (E:=4) (A:=true) (p:=lastB h) hy
 obtain⟨kd,hkd⟩:∃ kd,kd=kindD (fdN (tell h)):=⟨_,rfl⟩
 have hM:(szK (kd:Nat)=21/\fdM h=32)\/(szK (kd:Nat)=17/\fdM h=27):=by
  obtain⟨z1,z2⟩:=fx_len hkd
  rw[z2,z1]
  by_cases q:16 < fdN (tell h)
  ·rw[if_pos q];exact .inl ⟨rfl,rfl⟩
  ·rw[if_neg q];exact .inr ⟨rfl,rfl⟩
 obtain⟨st,hst⟩:∃ st,st=h.length - (tell h).length:=⟨_,rfl⟩
 have Fre:=F.re
 have Fnxt:=F.nxt
 have FoP:=F.oP
 rw[<- hkd] at Fre Fnxt FoP
 rw[<- hst] at Fnxt
 have hty:=tallyL_bit st
 have htl4:=tallyL_len st
 have hokl:(fxS h y).ok=true:=F.ok
 have hS:fxS h (y++[b])=fgStep 4 (fxS h y) b:=fgS_snoc 4 true (lastB h) y b
 have hlastq:lastP (lastB h) (y++[b])=b:=lastP_snoc _ _ _
 have hlen1:(y++[b]).length=y.length+1:=by simp
 unfold fdFits fdO
 rw[show fgS 4 true (lastB h) (y++[b])=fxS h (y++[b]) from rfl] at hfl hss ⊢
 rw[show fgS 4 true (lastB h) y=fxS h y from rfl] at hprev hsd hss hob
 rw[<- hkd,<- hst]
 have hevery:=F.every
 have hsince:=F.since
 have hlast:=F.last
 rw[<- hprev] at hlast
 cases hdue:(fxS h y).due with
 | true =>
   have hsn:m.since=m.every:=by rw[hsince,hevery];exact hsd.2 hdue
   have hout:(fxS h (y++[b])).out=(fxS h y).out:=by rw[hS];unfold fgStep;simp only;rw[hdue,if_pos rfl]
   have hls:(fxS h (y++[b])).last=true:=by rw[hS];unfold fgStep;simp only;exact hdue
   have hok:(fxS h (y++[b])).ok = !(b==(fxS h y).prev):=by rw[hS];unfold fgStep;simp only;rw[hokl,hdue];simp
   have hlt:¬(y++[b]).length=fdM h:=by
    rw[hls,if_pos rfl,hout] at hfl
    have hd:=fgS_due 4 true (lastB h) y
    rw[show fgS 4 true (lastB h) y=fxS h y from rfl,hdue] at hd
    have hd2:=hd.symm
    rw[Bool.and_eq_true] at hd2
    have hd3:=hd2.2
    unfold dueF at hd3
    rw[hfl]
    unfold szF
    generalize (fxS h y).out.length=o at *
    by_cases h0:o=0
    ·rw[if_pos h0];omega
    ·rw[if_neg h0] at hd3 ⊢
     have:=of_decide_eq_true hd3
     rw[show true.toNat=1 from rfl]
     omega
   refine⟨fun e=>spaced_bad F.raw hsn ?_,fun _ e=>absurd e hlt,fun e _ => ?_⟩
   ·rw[hok] at e
    rw[hlast]
    simpa using e
   ·have hq:b≠m.last:=by
     rw[hok] at e
     rw[hlast]
     simpa using e
    rw[spaced_due F.raw hsn hq]
    refine⟨⟨F.raw,F.every,?_,?_,F.f,F.l,F.oP,?_,e,?_,?_⟩,rfl,rfl,rfl,rfl⟩
    ·show 0=_
     rw[hss,hdue,if_pos rfl]
    ·show b=_
     rw[hlastq]
    ·rw[hout];exact F.re
    ·have:=F.len;omega
    ·rw[hout];exact F.nxt
 | false =>
   have hsn:m.since≠m.every:=by rw[hsince,hevery];intro e;rw[hsd.1 e] at hdue;cases hdue
   have hout:(fxS h (y++[b])).out=(fxS h y).out++[b]:=by rw[hS];unfold fgStep;simp only;rw[hdue];rfl
   have hls:(fxS h (y++[b])).last=false:=by rw[hS];unfold fgStep;simp only;exact hdue
   have hok:(fxS h (y++[b])).ok=true:=by rw[hS];unfold fgStep;simp only;rw[hokl,hdue];simp
   rw[hls,if_neg (by simp),hout] at hfl
   have hre:feedF m.re m.oP b kd=cN kd (h++((fxS h y).out++[b])):=by
    rw[FoP,<- List.append_assoc,cN_snoc,<- Fre,feed_in (by simp) (by simp)]
   rw[spaced_bit F.raw hsn,hout]
   have htlh:(h++((fxS h y).out++[b])).length<=65536:=by
    have:=fgS_len 4 true (lastB h) y
    rw[show fgS 4 true (lastB h) y=fxS h y from rfl] at this
    simp
    omega
   have hFlen:=F.len
   have hob':∀ z∈(fxS h y).out++[b],z<=1:=by
    intro z hz
    rcases List.mem_append.1 hz with q | q
    ·exact hob z q
    ·have:=List.mem_singleton.1 q;omega
   generalize hO:(fxS h y).out=O at *
   have hOl:(O++[b]).length=O.length+1:=by simp
   rw[hOl] at hfl
   have hsz:szK (kd:Nat)=21\/szK (kd:Nat)=17:=by rcases hM with q | q;exact .inl q.1;exact .inr q.1
   have hsf:szF 4 true (O.length+1)=O.length+1+O.length / 4+1:=by unfold szF;rw[if_neg (by omega)];rfl
   rw[hsf] at hfl
   have hOlt:O.length+1<=szK (kd:Nat)+4/\((y++[b]).length=fdM h↔O.length+1=szK (kd:Nat)+4):=by
    omega
   rcases Fnxt with ⟨n1,n2,n3⟩ | ⟨n1,n2,n3⟩
   ·refine⟨fun e=>(by rw[hok] at e;cases e),fun _ e => ?_,fun _ e => ?_⟩
    ·have:=hOlt.2.1 e;rcases hsz with q | q<;>omega
    ·by_cases q3:O.length=3
     ·have hnx:m.nx = .num 1 (numN O) (.check (numN (tallyL st)) (.sumFd kd)):=by rw[n2,q3]
      have hrun:PM.next { m.add b with since:=m.since+1,re:=feedF m.re m.oP b } b=PM.num { m.add b with since:=m.since+1,re:=feedF m.re m.oP b,wrong:=m.wrong||numN O*2+b != numN (tallyL st) } (szK (kd:Nat)) (.check (feedF m.re m.oP b kd) .tail):=by
       rw[next_last (m:={ m.add b with since:=m.since+1,re:=feedF m.re m.oP b }) hnx];rfl
      rw[hrun]
      refine⟨⟨F.raw,F.every,?_,by rw[hlastq];rfl,F.f,F.l,F.oP,by rw[<- hkd,hout];exact hre,hok,by rw[hlen1];rw[hlen1] at e;omega,.inr ?_⟩,rfl,rfl,rfl,rfl⟩
      ·show m.since+1=_
       rw[hss,hdue,hsince];rfl
      ·rw[hout,<- hkd,<- hst]
       refine⟨by omega,?_,?_⟩
       ·show Nx.num _ 0 _=_
        rw[hre,List.drop_eq_nil_of_le (by omega),List.take_of_length_le (by omega),hOl,show szK (kd:Nat)+4 - (O.length+1)=szK (kd:Nat) by omega]
        rfl
       ·show (m.wrong||numN O*2+b != numN (tallyL st))=_
        rw[n3,Bool.false_or,<- numN_snoc,List.take_of_length_le (by omega)]
        have:=num_inj hob' hty (by omega)
        by_cases q:O++[b]=tallyL st
        ·rw[decide_eq_true q,this.2 q];simp
        ·rw[decide_eq_false q]
         have:numN (O++[b])≠numN (tallyL st):=fun e=>q (this.1 e)
         simp[this]
     ·have hrun:PM.next { m.add b with since:=m.since+1,re:=feedF m.re m.oP b } b={ m.add b with since:=m.since+1,re:=feedF m.re m.oP b,nx := .num (4 - O.length - 1) (numN O*2+b) (.check (numN (tallyL st)) (.sumFd kd)) } :=
       next_adv (m:={ m.add b with since:=m.since+1,re:=feedF m.re m.oP b }) n2 (by omega) b
      rw[hrun]
      refine⟨⟨F.raw,F.every,?_,by rw[hlastq];rfl,F.f,F.l,F.oP,by rw[<- hkd,hout];exact hre,hok,by rw[hlen1];rw[hlen1] at e;omega,.inl ?_⟩,rfl,rfl,rfl,rfl⟩
      ·show m.since+1=_
       rw[hss,hdue,hsince];rfl
      ·rw[hout,<- hkd,<- hst]
       exact⟨by omega,by rw[numN_snoc,hOl,show 4 - (O.length+1)=4 - O.length - 1 by omega],n3⟩
   ·by_cases q3:O.length+1=szK (kd:Nat)+4
    ·refine⟨fun e=>(by rw[hok] at e;cases e),fun _ _ => ?_,fun _ e=>absurd (hOlt.2.2 q3) e⟩
     have hnx:m.nx = .num 1 (numN (O.drop 4)) (.check (cN kd (h++O.take 4)) .tail):=by rw[n2,show szK (kd:Nat)+4 - O.length=1 by omega]
     have hrun:PM.next { m.add b with since:=m.since+1,re:=feedF m.re m.oP b } b=PM.must { m.add b with since:=m.since+1,re:=feedF m.re m.oP b,wrong:=m.wrong||numN (O.drop 4)*2+b != cN kd (h++O.take 4),raw := .bare } [1] .delimited:=by
      rw[next_last (m:={ m.add b with since:=m.since+1,re:=feedF m.re m.oP b }) hnx];rfl
     rw[hrun]
     refine⟨⟨rfl,F.f,F.l,?_,by simp,.inl ⟨rfl,rfl⟩⟩,rfl,rfl,rfl,rfl⟩
     show (m.wrong||numN (O.drop 4)*2+b != cN kd (h++O.take 4))=_
     have hch:chk (h++(O++[b]))=true:=chk_of (fun z hz=>by
      rcases List.mem_append.1 hz with q | q
      ·exact hh z q
      ·exact hob' z q) htlh
     have hdl:(h++(O++[b])).length=h.length+(szK (kd:Nat)+4):=by rw[List.length_append,hOl,q3]
     have hfit:fitsB kd (h++(O++[b]))=decide (numN ((O++[b]).drop 4)=cN kd (h++O.take 4)):=by
      unfold fitsB
      rw[hch,hdl,show h.length+(szK (kd:Nat)+4) - szK (kd:Nat)=h.length+4 by omega]
      rw[show (h++(O++[b])).drop (h.length+4)=(O++[b]).drop 4 by rw[List.drop_append];simp[show h.length+4 - h.length=4 by omega]]
      rw[show (h++(O++[b])).take (h.length+4)=h++O.take 4 by rw[List.take_append,List.take_of_length_le (by omega),show h.length+4 - h.length=4 by omega,take_more n1]]
      rw[decide_eq_true (show szK (kd:Nat)≠0 by rcases hsz with q | q<;>omega),decide_eq_true (show szK (kd:Nat)<=h.length+(szK (kd:Nat)+4) by omega)]
      rfl
     rw[hfit,n3,<- numN_snoc,<- drop_more n1,take_more n1]
     generalize numN ((O++[b]).drop 4)=A
     generalize cN kd (h++O.take 4)=B
     by_cases p1:O.take 4=tallyL st<;>by_cases p2:A=B<;>simp[p1,p2]
    ·refine⟨fun e=>(by rw[hok] at e;cases e),fun _ e=>absurd (hOlt.2.1 e) q3,fun _ e => ?_⟩
     have hrun:PM.next { m.add b with since:=m.since+1,re:=feedF m.re m.oP b } b={ m.add b with since:=m.since+1,re:=feedF m.re m.oP b,nx := .num (szK (kd:Nat)+4 - O.length - 1) (numN (O.drop 4)*2+b) (.check (cN kd (h++O.take 4)) .tail) } :=
      next_adv (m:={ m.add b with since:=m.since+1,re:=feedF m.re m.oP b }) n2 (by omega) b
     rw[hrun]
     refine⟨⟨F.raw,F.every,?_,by rw[hlastq];rfl,F.f,F.l,F.oP,by rw[<- hkd,hout];exact hre,hok,by rw[hlen1];rw[hlen1] at e;omega,.inr ?_⟩,rfl,rfl,rfl,rfl⟩
     ·show m.since+1=_
      rw[hss,hdue,hsince];rfl
     ·rw[hout,<- hkd,<- hst]
      refine⟨by omega,?_,by rw[take_more n1];exact n3⟩
      rw[drop_more n1,numN_snoc,hOl,take_more n1,show szK (kd:Nat)+4 - (O.length+1)=szK (kd:Nat)+4 - O.length - 1 by omega]
end Go.Proofs.YtipefblpppmabaaGreatDoor
namespace Go.Proofs.YtipefblpppmabaaGreatDoor
set_option linter.unusedVariables false
set_option linter.unusedSimpArgs false
open Go.RowKit
theorem fits_at {k:Nat} (hz:szK (k:Nat)≠0) {A B:List Nat} (hA:∀ z∈A,z<=1) (hB:∀ z∈B,z<=1) (hl:B.length=szK (k:Nat)) (h6:A.length+B.length<=65536):fitsB (k:Nat) (A++B)=decide (numN B=cN k A):=by
 have hch:chk (A++B)=true:=chk_of (fun z hz=>by
  rcases List.mem_append.1 hz with q | q
  ·exact hA z q
  ·exact hB z q) (by rw[List.length_append];exact h6)
 unfold fitsB
 rw[hch,List.length_append,hl,show A.length+szK (k:Nat) - szK (k:Nat)=A.length by omega,List.drop_left,List.take_left,decide_eq_true hz,decide_eq_true (show szK (k:Nat)<=A.length+szK (k:Nat) by omega)]
 rfl
def xf0 (tl:List Nat):Hd:={ hdR tl with K:=3 }
def xf1 (tl O:List Nat):Hd:={ xf0 tl with D:=(numN (O.take 8):Nat) }
def xf2 (tl O:List Nat):Hd:={ xf1 tl O with S:=bitG O 8==1 }
def xf3 (tl O:List Nat):Hd:={ xf2 tl O with V:=(numN ((O.drop 37).take 8):Nat) }
def xf4 (tl O:List Nat):Hd:={ xf3 tl O with A:=(numN ((O.drop 45).take 32):Nat) }
theorem xf4_eq {tl O:List Nat} (h:bitG tl 12=0):xf4 tl O=xlF tl O:=by
 unfold xf4 xf3 xf2 xf1 xf0 hdR hdS idN xlF
 rw[h]
 rfl
theorem xf1_more {tl O:List Nat} {b:Nat} (h:8<=O.length):xf1 tl (O++[b])=xf1 tl O:=by unfold xf1;rw[take_more h]
theorem xf2_more {tl O:List Nat} {b:Nat} (h:9<=O.length):xf2 tl (O++[b])=xf2 tl O:=by unfold xf2;rw[xf1_more (by omega),bitG_more (by omega)]
theorem xf3_more {tl O:List Nat} {b:Nat} (h:45<=O.length):xf3 tl (O++[b])=xf3 tl O:=by unfold xf3;rw[xf2_more (by omega),cut_more (by omega)]
theorem xf4_more {tl O:List Nat} {b:Nat} (h:77<=O.length):xf4 tl (O++[b])=xf4 tl O:=by unfold xf4;rw[xf3_more (by omega),cut_more (by omega)]
theorem xlN_more {O:List Nat} {b:Nat} (h:20<=O.length):xlN (O++[b])=xlN O:=by unfold xlN;rw[cut_more (by omega)]
theorem xlN_pos (O:List Nat):1<=xlN O:=by unfold xlN;omega
def okT (st:Nat) (O:List Nat):Bool:=decide ((O.drop 20).take 4=tallyL st)
def okP (st:Nat) (tl O:List Nat):Bool:=okT st O&&fitsB 4 (tl++O.take 37)
theorem okT_more {st:Nat} {O:List Nat} {b:Nat} (h:24<=O.length):okT st (O++[b])=okT st O:=by unfold okT;rw[cut_more (by omega)]
theorem okP_more {st:Nat} {tl O:List Nat} {b:Nat} (h:37<=O.length):okP st tl (O++[b])=okP st tl O:=by unfold okP;rw[okT_more (by omega),take_more h]
inductive Xc (st:Nat) (tl O:List Nat):Nx->Hd->List Nat->Bool->List Nat->Prop where
 | a1:O.length < 8->Xc st tl O (.num (8 - O.length) (numN O) .sdt) (xf0 tl) [] false [4,5]
 | a2:O.length=8->Xc st tl O (.num 1 0 (.flag .sec .xlSize)) (xf1 tl O) [] false [4,5]
 | a3:9<=O.length->O.length < 20->Xc st tl O (.num (20 - O.length) (numN (O.drop 9)) (.size .checked)) (xf2 tl O) [] false [4,5]
 | a4:20<=O.length->O.length < 24->Xc st tl O (.num (24 - O.length) (numN (O.drop 20)) (.check (numN (tallyL st)) (.headSum (xlN O)))) (xf2 tl O) [] false [4,5]
 | a5:24<=O.length->O.length < 37->Xc st tl O (.num (37 - O.length) (numN (O.drop 24)) (.check (cN 4 (tl++O.take 24)) (.vc (xlN O)))) (xf2 tl O) [] (!okT st O) [4,5]
 | a6:37<=O.length->O.length < 45->Xc st tl O (.num (45 - O.length) (numN (O.drop 37)) (.vcid (xlN O))) (xf2 tl O) [] (!okP st tl O) [5]
 | a7:45<=O.length->O.length < 77->Xc st tl O (.num (77 - O.length) (numN (O.drop 45)) (.af (xlN O))) (xf3 tl O) [] (!okP st tl O) [5]
 | a8 (j:Nat):77+8*j<=O.length->O.length < 77+8*j+8->j < xlN O->Xc st tl O (.num (8 - (O.length - (77+8*j))) (numN (O.drop (77+8*j))) (.data (xlN O - j) .sumXl)) (xf4 tl O) (packN (O.drop 77)) (!okP st tl O) [5]
 | a9:77+8*xlN O<=O.length->O.length < 77+8*xlN O+32->Xc st tl O (.num (32 - (O.length - (77+8*xlN O))) (numN (O.drop (77+8*xlN O))) (.check (cN 5 (O.take (77+8*xlN O))) .trailed)) (xf4 tl O) (packN ((O.drop 77).take (8*xlN O))) (!okP st tl O) [5]
def XOut (st:Nat) (tl O':List Nat) (m r:PM):Prop :=
 (O'.length=109+8*xlN O'/\r={ m with raw := .bare,nx := .must [0,1,1,0] .tail,f:=xf4 tl O',l:=packN ((O'.drop 77).take (8*xlN O')),wrong := !(okP st tl O'&&fitsB 5 O') }) \/
 (O'.length < 109+8*xlN O'/\∃ nx f l w oP,r={ m with nx:=nx,f:=f,l:=l,wrong:=w,oP:=oP }/\Xc st tl O' nx f l w oP/\(∀ k∈oP,k∈m.oP))
theorem xc_step {st:Nat} {tl O:List Nat} {b:Nat} {m:PM} (hc:Xc st tl O m.nx m.f m.l m.wrong m.oP) (ht:∀ z∈tl,z<=1) (hO:∀ z∈O,z<=1) (hb:b<=1) (h4:4∈m.oP->m.re 4=cN 4 (tl++(O++[b]))) (h5:m.re 5=cN 5 (O++[b])) (hst:m.stuffs=st) (h12:bitG tl 12=0) (hlen:tl.length+O.length+1<=65536):XOut st tl (O++[b]) m (m.next b):=by
 have hl:(O++[b]).length=O.length+1:=by simp
 have hO':∀ z∈O++[b],z<=1:=by
  intro z hz
  rcases List.mem_append.1 hz with q | q
  ·exact hO z q
  ·have:=List.mem_singleton.1 q;omega
 have hN:=xlN_pos (O++[b])
 generalize hnx:m.nx=nx at hc
 generalize hf:m.f=f at hc
 generalize hld:m.l=l at hc
 generalize hw:m.wrong=wr at hc
 generalize hP:m.oP=oP at hc
 cases hc with
 | a1 h1 =>
   refine .inr ⟨by omega,?_⟩
   by_cases e:O.length=7
   ·rw[e] at hnx
    rw[next_last hnx,<- numN_snoc]
    have hv:numN (O++[b])%256=numN (O++[b]):=by
     have:=byte_lt (j:=0) hO' (by rw[hl];omega)
     simpa using this
    refine⟨.num 1 0 (.flag .sec .xlSize),{ m.f with D:=(numN (O++[b])%256:Nat) },m.l,m.wrong,m.oP,rfl,?_,fun _ h=>h⟩
    rw[hv,hf,hld,hw,hP]
    have c:=Xc.a2 (st:=st) (tl:=tl) (O:=O++[b]) (by omega)
    unfold xf1 at c
    rw[List.take_of_length_le (by omega)] at c
    exact c
   ·rw[next_adv hnx (by omega),<- numN_snoc]
    refine⟨_,m.f,m.l,m.wrong,m.oP,rfl,?_,fun _ h=>h⟩
    rw[hf,hld,hw,hP]
    have c:=Xc.a1 (st:=st) (tl:=tl) (O:=O++[b]) (by omega)
    rw[hl,show 8 - (O.length+1)=8 - O.length - 1 by omega] at c
    exact c
 | a2 h1 =>
   refine .inr ⟨by omega,?_⟩
   rw[next_last hnx]
   refine⟨.num 11 0 (.size .checked),{ m.f with S:=0*2+b==1 },m.l,m.wrong,m.oP,rfl,?_,fun _ h=>h⟩
   rw[hf,hld,hw,hP,beq_bit hb (bitG (O++[b]) 8) (bitG_last (by omega))]
   have c:=Xc.a3 (st:=st) (tl:=tl) (O:=O++[b]) (by omega) (by omega)
   unfold xf2 at c
   rw[numN_drop_nil (by omega),hl,h1,xf1_more (by omega)] at c
   exact c
 | a3 h1 h2 =>
   refine .inr ⟨by omega,?_⟩
   by_cases e:O.length=19
   ·rw[e] at hnx
    rw[next_last hnx,<- numN_drop_one (by omega)]
    have hv:numN ((O++[b]).drop 9) < 2048:=by
     have:=numN_lt ((O++[b]).drop 9) (fun x hx=>hO' x (List.mem_of_mem_drop hx))
     rw[List.length_drop,hl,e] at this
     exact this
    have hNe:xlN (O++[b])=numN ((O++[b]).drop 9)+1:=by unfold xlN;rw[numN_cut (by omega)]
    generalize numN ((O++[b]).drop 9)=v at *
    have e3:isC 3 (v:Nat)=true:=by
     unfold isC
     rw[show cntF 3=2048 from rfl]
     simp
     omega
    have z1:sizeE 3 (v:Nat)=0:=by unfold sizeE;rw[e3,if_pos rfl]
    have z2:sizeV 3 (v:Nat)=v+1:=by unfold sizeV;rw[e3,if_pos rfl,Int.toNat_natCast];exact at3 v
    have hfR:(xf2 tl O).R=false:=by
     show (bitG tl 12==1)=false
     rw[h12];rfl
    have hrun:runN (.size .checked) v m=PM.num m 4 (.check (numN (tallyL st)) (.headSum (v+1))):=by
     rw[<- hst]
     show (if sizeE m.f.K _≠0\/(m.f.R=true/\sizeV m.f.K _≠0) then m.bad 5 else runZ .checked (sizeV m.f.K _) m)=_
     rw[hf,show (xf2 tl O).K=3 from rfl,z1,z2,hfR,if_neg (by rintro (q | ⟨q,_⟩);exact q rfl;cases q)]
     rfl
    rw[hrun,<- hNe]
    refine⟨.num 4 0 (.check (numN (tallyL st)) (.headSum (xlN (O++[b])))),m.f,m.l,m.wrong,m.oP,rfl,?_,fun _ h=>h⟩
    rw[hf,hld,hw,hP]
    have c:=Xc.a4 (st:=st) (tl:=tl) (O:=O++[b]) (by omega) (by omega)
    rw[numN_drop_nil (by omega),hl,e,xf2_more (by omega)] at c
    exact c
   ·rw[next_adv hnx (by omega),<- numN_drop_one (by omega)]
    refine⟨_,m.f,m.l,m.wrong,m.oP,rfl,?_,fun _ h=>h⟩
    rw[hf,hld,hw,hP]
    have c:=Xc.a3 (st:=st) (tl:=tl) (O:=O++[b]) (by omega) (by omega)
    rw[hl,show 20 - (O.length+1)=20 - O.length - 1 by omega,xf2_more (by omega)] at c
    exact c
 | a4 h1 h2 =>
   refine .inr ⟨by omega,?_⟩
   have hNm:=xlN_more (O:=O) (b:=b) h1
   by_cases e:O.length=23
   ·rw[e] at hnx
    rw[next_last hnx,<- numN_drop_one (by omega)]
    refine⟨.num 13 0 (.check (m.re 4) (.vc (xlN O))),m.f,m.l,m.wrong||numN ((O++[b]).drop 20) != numN (tallyL st),m.oP,rfl,?_,fun _ h=>h⟩
    rw[h4 (by rw[hP];simp),hf,hld,hw,hP]
    have c:=Xc.a5 (st:=st) (tl:=tl) (O:=O++[b]) (by omega) (by omega)
    rw[numN_drop_nil (by omega),hl,e,xf2_more (by omega),hNm,List.take_of_length_le (by omega)] at c
    have hT:okT st (O++[b]) = !(numN ((O++[b]).drop 20) != numN (tallyL st)):=by
     unfold okT
     rw[List.take_of_length_le (by rw[List.length_drop];omega)]
     have:=num_inj (l:=(O++[b]).drop 20) (l':=tallyL st) (fun z hz=>hO' z (List.mem_of_mem_drop hz)) (tallyL_bit st) (by rw[tallyL_len,List.length_drop];omega)
     by_cases q:(O++[b]).drop 20=tallyL st
     ·rw[decide_eq_true q,this.2 q];simp
     ·rw[decide_eq_false q]
      have:numN ((O++[b]).drop 20)≠numN (tallyL st):=fun e=>q (this.1 e)
      simp[this]
    rw[hT,Bool.not_not] at c
    rw[Bool.false_or]
    exact c
   ·rw[next_adv hnx (by omega),<- numN_drop_one (by omega)]
    refine⟨_,m.f,m.l,m.wrong,m.oP,rfl,?_,fun _ h=>h⟩
    rw[hf,hld,hw,hP]
    have c:=Xc.a4 (st:=st) (tl:=tl) (O:=O++[b]) (by omega) (by omega)
    rw[hl,show 24 - (O.length+1)=24 - O.length - 1 by omega,xf2_more (by omega),hNm] at c
    exact c
 | a5 h1 h2 =>
   refine .inr ⟨by omega,?_⟩
   have hNm:=xlN_more (O:=O) (b:=b) (by omega)
   by_cases e:O.length=36
   ·rw[e] at hnx
    rw[next_last hnx,<- numN_drop_one (by omega)]
    refine⟨.num 8 0 (.vcid (xlN O)),m.f,m.l,m.wrong||numN ((O++[b]).drop 24) != cN 4 (tl++O.take 24),[5],rfl,?_,by rw[hP];simp⟩
    rw[hf,hld,hw]
    have c:=Xc.a6 (st:=st) (tl:=tl) (O:=O++[b]) (by omega) (by omega)
    rw[numN_drop_nil (by omega),hl,e,xf2_more (by omega),hNm] at c
    have hfit:fitsB 4 (tl++(O++[b]).take 37)=decide (numN ((O++[b]).drop 24)=cN 4 (tl++O.take 24)):=by
     rw[List.take_of_length_le (by omega)]
     have e1:tl++(O++[b])=(tl++O.take 24)++(O++[b]).drop 24:=by
      rw[List.append_assoc,<- take_more (b:=b) h1,List.take_append_drop]
     rw[e1]
     exact fits_at (k:=4) (by decide) (fun z hz=>by
      rcases List.mem_append.1 hz with q | q
      ·exact ht z q
      ·exact hO z (List.mem_of_mem_take q)) (fun z hz=>hO' z (List.mem_of_mem_drop hz)) (by rw[List.length_drop,hl,e];rfl) (by rw[List.length_append,List.length_drop,List.length_take];omega)
    unfold okP at c
    rw[hfit,okT_more h1] at c
    generalize numN ((O++[b]).drop 24)=A at *
    generalize cN 4 (tl++O.take 24)=B at *
    have:(!okT st O||A != B) = !(okT st O&&decide (A=B)):=by
     cases okT st O<;>by_cases q:A=B<;>simp[q]
    rw[this]
    exact c
   ·rw[next_adv hnx (by omega),<- numN_drop_one (by omega)]
    refine⟨_,m.f,m.l,m.wrong,m.oP,rfl,?_,fun _ h=>h⟩
    rw[hf,hld,hw,hP]
    have c:=Xc.a5 (st:=st) (tl:=tl) (O:=O++[b]) (by omega) (by omega)
    rw[hl,show 37 - (O.length+1)=37 - O.length - 1 by omega,xf2_more (by omega),hNm,okT_more h1,take_more h1] at c
    exact c
 | a6 h1 h2 =>
   refine .inr ⟨by omega,?_⟩
   have hNm:=xlN_more (O:=O) (b:=b) (by omega)
   by_cases e:O.length=44
   ·rw[e] at hnx
    rw[next_last hnx,<- numN_drop_one (by omega)]
    have hv:numN ((O++[b]).drop 37)%256=numN ((O++[b]).drop 37):=byte_lt hO' (by omega)
    refine⟨.num 32 0 (.af (xlN O)),{ m.f with V:=(numN ((O++[b]).drop 37)%256:Nat) },m.l,m.wrong,m.oP,rfl,?_,fun _ h=>h⟩
    rw[hv,hf,hld,hw,hP]
    have c:=Xc.a7 (st:=st) (tl:=tl) (O:=O++[b]) (by omega) (by omega)
    unfold xf3 at c
    rw[numN_drop_nil (by omega),hl,e,xf2_more (by omega),hNm,okP_more h1,numN_cut (by omega)] at c
    exact c
   ·rw[next_adv hnx (by omega),<- numN_drop_one (by omega)]
    refine⟨_,m.f,m.l,m.wrong,m.oP,rfl,?_,fun _ h=>h⟩
    rw[hf,hld,hw,hP]
    have c:=Xc.a6 (st:=st) (tl:=tl) (O:=O++[b]) (by omega) (by omega)
    rw[hl,show 45 - (O.length+1)=45 - O.length - 1 by omega,xf2_more (by omega),hNm,okP_more h1] at c
    exact c
 | a7 h1 h2 =>
   refine .inr ⟨by omega,?_⟩
   have hNm:=xlN_more (O:=O) (b:=b) (by omega)
   by_cases e:O.length=76
   ·rw[e] at hnx
    rw[next_last hnx,<- numN_drop_one (by omega)]
    have hp:=xlN_pos O
    refine⟨.num 8 0 (.data (xlN O) .sumXl),{ m.f with A:=(numN ((O++[b]).drop 45):Nat) },m.l,m.wrong,m.oP,by
     show PM.data { m with f:={ m.f with A:=(numN ((O++[b]).drop 45):Nat) } } (xlN O) .sumXl=_
     unfold PM.data
     rw[if_neg (by omega)]
     rfl,?_,fun _ h=>h⟩
    rw[hf,hld,hw,hP]
    have c:=Xc.a8 (st:=st) (tl:=tl) (O:=O++[b]) 0 (by omega) (by omega) (by omega)
    unfold xf4 at c
    rw[numN_drop_nil (by omega),hl,e,xf3_more (by omega),hNm,okP_more (by omega),numN_cut (by omega),show (O++[b]).drop 77=[] from List.drop_eq_nil_of_le (by omega)] at c
    exact c
   ·rw[next_adv hnx (by omega),<- numN_drop_one (by omega)]
    refine⟨_,m.f,m.l,m.wrong,m.oP,rfl,?_,fun _ h=>h⟩
    rw[hf,hld,hw,hP]
    have c:=Xc.a7 (st:=st) (tl:=tl) (O:=O++[b]) (by omega) (by omega)
    rw[hl,show 77 - (O.length+1)=77 - O.length - 1 by omega,xf3_more (by omega),hNm,okP_more (by omega)] at c
    exact c
 | a8 j h1 h2 h3 =>
   have hNm:=xlN_more (O:=O) (b:=b) (by omega)
   refine .inr ⟨by omega,?_⟩
   by_cases e:O.length=77+8*j+7
   ·rw[show 8 - (O.length - (77+8*j))=1 by omega] at hnx
    rw[next_last hnx,<- numN_drop_one (by omega)]
    have hl':m.l++[numN ((O++[b]).drop (77+8*j))%256]=packN ((O++[b]).drop 77):=by
     rw[byte_lt hO' (by omega),hld,packN_more (a:=77) (n:=j) (by omega)]
    have hrun:runN (.data (xlN O - j) .sumXl) (numN ((O++[b]).drop (77+8*j))) m=PM.data { m with l:=packN ((O++[b]).drop 77) } (xlN O - j - 1) .sumXl:=by
     rw[<- hl'];rfl
    rw[hrun]
    by_cases q0:xlN O - j - 1=0
    ·refine⟨.num 32 0 (.check (m.re 5) .trailed),m.f,packN ((O++[b]).drop 77),m.wrong,m.oP,by unfold PM.data;rw[if_pos q0];rfl,?_,fun _ h=>h⟩
     rw[h5,hf,hw,hP]
     have c:=Xc.a9 (st:=st) (tl:=tl) (O:=O++[b]) (by omega) (by omega)
     rw[hNm] at c
     rw[numN_drop_nil (by omega),hl,xf4_more (by omega),okP_more (by omega),List.take_of_length_le (l:=O++[b]) (by omega),List.take_of_length_le (by rw[List.length_drop];omega),show 32 - (O.length+1 - (77+8*xlN O))=32 by omega] at c
     exact c
    ·refine⟨.num 8 0 (.data (xlN O - j - 1) .sumXl),m.f,packN ((O++[b]).drop 77),m.wrong,m.oP,by unfold PM.data;rw[if_neg q0];rfl,?_,fun _ h=>h⟩
     rw[hf,hw,hP]
     have c:=Xc.a8 (st:=st) (tl:=tl) (O:=O++[b]) (j+1) (by omega) (by omega) (by omega)
     rw[numN_drop_nil (by omega),hl,xf4_more (by omega),okP_more (by omega),hNm,show 8 - (O.length+1 - (77+8*(j+1)))=8 by omega,show xlN O - (j+1)=xlN O - j - 1 by omega] at c
     exact c
   ·rw[next_adv hnx (by omega),<- numN_drop_one (by omega)]
    refine⟨_,m.f,m.l,m.wrong,m.oP,rfl,?_,fun _ h=>h⟩
    rw[hf,hld,hw,hP]
    have c:=Xc.a8 (st:=st) (tl:=tl) (O:=O++[b]) j (by omega) (by omega) (by omega)
    rw[hl,show 8 - (O.length+1 - (77+8*j))=8 - (O.length - (77+8*j)) - 1 by omega,xf4_more (by omega),okP_more (by omega),hNm,packN_same (by omega) (by omega)] at c
    exact c
 | a9 h1 h2 =>
   have hNm:=xlN_more (O:=O) (b:=b) (by have:=xlN_pos O;omega)
   have hfx:=xf4_more (tl:=tl) (O:=O) (b:=b) (by omega)
   have hok:=okP_more (st:=st) (tl:=tl) (O:=O) (b:=b) (by omega)
   have htk:=take_more (t:=O) (b:=b) h1
   have hld':packN (((O++[b]).drop 77).take (8*xlN O))=m.l:=by rw[cut_more (by omega),hld]
   by_cases e:O.length=77+8*xlN O+31
   ·refine .inl ⟨by omega,?_⟩
    rw[show 32 - (O.length - (77+8*xlN O))=1 by omega] at hnx
    rw[next_last hnx,<- numN_drop_one (by omega)]
    have hfit:fitsB 5 (O++[b])=decide (numN ((O++[b]).drop (77+8*xlN O))=cN 5 (O.take (77+8*xlN O))):=by
     have e1:O++[b]=O.take (77+8*xlN O)++(O++[b]).drop (77+8*xlN O):=by
      rw[<- htk,List.take_append_drop]
     exact (congrArg (fitsB 5) e1).trans <| fits_at (k:=5) (by decide) (fun z hz=>hO z (List.mem_of_mem_take hz)) (fun z hz=>hO' z (List.mem_of_mem_drop hz)) (by rw[List.length_drop,hl,e,show 77+8*xlN O+31+1 - (77+8*xlN O)=32 by omega];rfl) (by rw[List.length_drop,List.length_take];omega)
    show ({ m with wrong:=m.wrong||numN ((O++[b]).drop (77+8*xlN O)) != cN 5 (O.take (77+8*xlN O)),raw := .bare,nx := .must [0,1,1,0] .tail }:PM)=_
    rw[hNm,hfx,hok,hld',hfit,<- hf,hw]
    generalize numN ((O++[b]).drop (77+8*xlN O))=A
    generalize cN 5 (O.take (77+8*xlN O))=B
    have:(!okP st tl O||A != B) = !(okP st tl O&&decide (A=B)):=by
     cases okP st tl O<;>by_cases q:A=B<;>simp[q]
    rw[this]
   ·refine .inr ⟨by omega,?_⟩
    rw[next_adv hnx (by omega),<- numN_drop_one (by omega)]
    refine⟨_,m.f,m.l,m.wrong,m.oP,rfl,?_,fun _ h=>h⟩
    rw[<- hld',hf,hw,hP]
    have c:=Xc.a9 (st:=st) (tl:=tl) (O:=O++[b]) (by omega) (by omega)
    rw[hNm] at c
    rw[hl,show 32 - (O.length+1 - (77+8*xlN O))=32 - (O.length - (77+8*xlN O)) - 1 by omega,hfx,hok,htk] at c
    exact c
end Go.Proofs.YtipefblpppmabaaGreatDoor
namespace Go.Proofs.YtipefblpppmabaaGreatDoor
set_option linter.unusedVariables false
set_option linter.unusedSimpArgs false
open Go.RowKit
structure Xd (h y:List Nat) (m:PM):Prop where
 raw:m.raw = .spaced
 every:m.every=8
 since:m.since=sinceF 8 false (fgS 8 false 1 y)
 last:y≠[]->m.last=lastP 1 y
 ok:(fgS 8 false 1 y).ok=true
 stuffs:m.stuffs=h.length - 17
 f12:bitG (tell h) 12=0
 cx:Xc (h.length - 17) (tell h) (xo y) m.nx m.f m.l m.wrong m.oP
 s4:4∈m.oP->m.re 4=cN 4 (tell h++xo y)
 s5:m.re 5=cN 5 (xo y)
theorem Xc.info {st:Nat} {tl O:List Nat} {nx:Nx} {f:Hd} {l:List Nat} {w:Bool} {oP:List Nat} (h:Xc st tl O nx f l w oP):O.length < 109+8*xlN O/\(oP=[4,5]\/oP=[5])/\nx ≠ .none:=by
 have:=xlN_pos O
 cases h<;>refine⟨by omega,by simp,by simp⟩
theorem szF8 (o:Nat):szF 8 false o=if o=0 then 0 else o+(o - 1) / 8:=by unfold szF;split<;>simp
theorem xd_noend {y:List Nat} (h:(xo y).length < 109+8*xlN (xo y)):xdEnd y=false:=by
 have hl:=fg_length (E:=8) (.inr rfl) false 1 y
 have hd:=fg_last (E:=8) (A:=false) (p:=1) y
 unfold xdEnd
 rw[show fgS 8 false 1 y=fgS 8 false 1 y from rfl] at hl
 have hne:¬y.length=szF 8 false (109+8*xlN (xo y)):=by
  unfold xo at *
  rw[hl,szF8,szF8,if_neg (by omega:¬109+8*xlN (fgS 8 false 1 y).out=0)]
  unfold dueF at hd
  generalize xlN (fgS 8 false 1 y).out=N at *
  generalize (fgS 8 false 1 y).out.length=o at *
  cases hq:(fgS 8 false 1 y).last with
  | true =>
    have h1:=(hd hq).1
    by_cases h0:o=0
    ·rw[if_pos h0] at h1;cases h1
    ·rw[if_neg h0] at h1 ⊢
     have:=of_decide_eq_true h1
     rw[if_pos rfl]
     omega
  | false =>
    rw[if_neg (by simp:¬(false=true))]
    split<;>omega
 rw[decide_eq_false hne,Bool.and_false]
theorem xd_end {y:List Nat} (h:(xo y).length=109+8*xlN (xo y)) (hl:(fgS 8 false 1 y).last=false):xdEnd y=true:=by
 have hlen:=fg_length (E:=8) (.inr rfl) false 1 y
 rw[hl,if_neg (by simp:¬(false=true)),Nat.add_zero] at hlen
 unfold xdEnd
 rw[hlen,show (fgS 8 false 1 y).out.length=(xo y).length from rfl,h,decide_eq_true rfl,Bool.and_true,decide_eq_true_eq,szF8,if_neg (by omega)]
 omega
theorem xd_step {h y:List Nat} {b:Nat} {m:PM} (F:Xd h y m) (hh:∀ z∈h,z<=1) (hy:∀ z∈y,z<=1) (hb:b<=1) (hlen:h.length+y.length+1<=65536) :
    ((fgS 8 false 1 (y++[b])).ok=false->m.step b=m.bad 4) /\
    ((fgS 8 false 1 (y++[b])).ok=true->xdEnd (y++[b])=true->Xe h (y++[b]) [] (m.step b)/\(m.step b).is=m.is/\(m.step b).kn=m.kn/\KdP (m.step b).oP/\(m.step b).oP.length<=2/\(m.step b).oR=m.oR) /\
    ((fgS 8 false 1 (y++[b])).ok=true->xdEnd (y++[b])=false->Xd h (y++[b]) (m.step b)/\(m.step b).is=m.is/\(m.step b).kn=m.kn/\(m.step b).oR=m.oR):=by
 have hprev:=fgS_prev 8 false 1 y
 have hsd:=since_due (E:=8) (.inr rfl) false 1 y
 have hss:=since_step (E:=8) (.inr rfl) false 1 y b
 have hob:=fgS_bit (E:=8) (A:=false) (p:=1) hy
 obtain⟨i1,i2,i3⟩:=F.cx.info
 have hS:=fgS_snoc 8 false 1 y b
 have hne:y++[b]≠[]:=by simp
 have htl:=tell_len h
 have hol:=fgS_len 8 false 1 y
 have kP:KdP m.oP/\m.oP.length<=2:=by
  rcases i2 with e | e<;>rw[e]
  ·exact ⟨by intro k hk;have:k=4\/k=5:=by simpa using hk
             omega,by simp⟩
  ·exact ⟨by intro k hk;have:k=5:=by simpa using hk
             omega,by simp⟩
 cases hdue:(fgS 8 false 1 y).due with
 | true =>
   have hsn:m.since=m.every:=by rw[F.since,F.every];exact hsd.2 hdue
   have hy0:y≠[]:=by rintro rfl;cases hdue
   have hlast:m.last=(fgS 8 false 1 y).prev:=by rw[F.last hy0,hprev]
   have hout:xo (y++[b])=xo y:=by unfold xo;rw[hS];unfold fgStep;simp only;rw[hdue,if_pos rfl]
   have hok:(fgS 8 false 1 (y++[b])).ok = !(b==(fgS 8 false 1 y).prev):=by rw[hS];unfold fgStep;simp only;rw[F.ok,hdue];simp
   have hlt:=xd_noend (y:=y++[b]) (by rw[hout];exact i1)
   refine⟨fun e=>spaced_bad F.raw hsn ?_,fun _ e=>(by rw[hlt] at e;cases e),fun e _ => ?_⟩
   ·rw[hok] at e
    rw[hlast]
    simpa using e
   ·have hq:b≠m.last:=by
     rw[hok] at e
     rw[hlast]
     simpa using e
    rw[spaced_due F.raw hsn hq]
    refine⟨⟨F.raw,F.every,?_,fun _=>(lastP_snoc _ _ _).symm,e,F.stuffs,F.f12,by rw[hout];exact F.cx,by rw[hout];exact F.s4,by rw[hout];exact F.s5⟩,rfl,rfl,rfl⟩
    show 0=_
    rw[hss,hdue,if_pos rfl]
 | false =>
   have hsn:m.since≠m.every:=by rw[F.since,F.every];intro e;rw[hsd.1 e] at hdue;cases hdue
   have hout:xo (y++[b])=xo y++[b]:=by unfold xo;rw[hS];unfold fgStep;simp only;rw[hdue];rfl
   have hls:(fgS 8 false 1 (y++[b])).last=false:=by rw[hS];unfold fgStep;simp only;exact hdue
   have hok:(fgS 8 false 1 (y++[b])).ok=true:=by rw[hS];unfold fgStep;simp only;rw[F.ok,hdue];simp
   have hnd:m.oP.Nodup:=by rcases i2 with e | e<;>rw[e]<;>decide
   have h5:feedF m.re m.oP b 5=cN 5 (xo y++[b]):=by
    rw[feed_in hnd (by rcases i2 with e | e<;>rw[e]<;>simp),F.s5,cN_snoc]
   have h4:4∈m.oP->feedF m.re m.oP b 4=cN 4 (tell h++(xo y++[b])):=by
    intro hk
    rw[feed_in hnd hk,F.s4 hk,<- List.append_assoc,cN_snoc]
   have hx:=xc_step (m:={ m.add b with since:=m.since+1,re:=feedF m.re m.oP b }) F.cx (tell_bit hh) hob hb h4 h5 F.stuffs F.f12 (by show (tell h).length+(xo y).length+1<=65536;unfold xo;omega)
   rw[spaced_bit F.raw hsn]
   rw[<- hout] at hx h4 h5
   refine⟨fun e=>(by rw[hok] at e;cases e),fun _ e => ?_,fun _ e => ?_⟩
   ·rcases hx with ⟨x1,x2⟩ | ⟨x1,_⟩
    ·rw[x2]
     refine⟨⟨rfl,xf4_eq F.f12,rfl,?_,by simp,rfl⟩,rfl,rfl,kP.1,kP.2,rfl⟩
     show (!(okP (h.length - 17) (tell h) (xo (y++[b]))&&fitsB 5 (xo (y++[b])))) = !xlFits h (y++[b])
     unfold okP okT xlFits
     rw[Bool.and_assoc]
    ·rw[xd_noend x1] at e;cases e
   ·rcases hx with ⟨x1,_⟩ | ⟨x1,nx,f,l,w,oP,x2,x3,x4⟩
    ·rw[xd_end x1 hls] at e;cases e
    ·rw[x2]
     refine⟨⟨F.raw,F.every,?_,fun _=>(lastP_snoc _ _ _).symm,hok,F.stuffs,F.f12,x3,fun hk=>h4 (x4 4 hk),h5⟩,rfl,rfl,rfl⟩
     show m.since+1=_
     rw[hss,hdue,F.since];rfl
def SimP (kn:Bool):Ph->PM->Prop
 | .dyn x,m=>Dy kn x m
 | .fx h y,m=>Fx h y m
 | .xs h y,m=>Xs h y m
 | .xd h y,m=>Xd h y m
 | .xe h y z,m=>Xe h y z m
 | .tail ok f l t,m=>Tl ok f l t m
 | .fin _,m=>m.raw = .over
def PhB (n:Nat):Ph->Prop
 | .dyn x=>(∀ z∈x,z<=1)/\x.length<=n
 | .fx h y=>(∀ z∈h,z<=1)/\(∀ z∈y,z<=1)/\h.length+y.length<=n
 | .xs h y=>(∀ z∈h,z<=1)/\h.length+y.length<=n
 | .xd h y=>(∀ z∈h,z<=1)/\(∀ z∈y,z<=1)/\h.length+y.length<=n
 | _=>True
structure Sim (kn:Bool) (n:Nat) (p:Ph) (m:PM):Prop where
 hk:m.kn=kn
 is:m.is=staOf p
 kk:KK m
 pb:PhB n p
 ph:SimP kn p m
theorem bits_more {x:List Nat} {b:Nat} (h:∀ z∈x,z<=1) (hb:b<=1):∀ z∈x++[b],z<=1:=by
 intro z hz
 rcases List.mem_append.1 hz with q | q
 ·exact h z q
 ·have:=List.mem_singleton.1 q;omega
theorem sim_fin {kn:Bool} {n:Nat} {m:PM} (h:m.kn=kn) (s:Sta):Sim kn n (.fin s) (m.fin s):=⟨h,rfl,⟨(by intro k hk;cases hk),(by intro k hk;cases hk),by simp[PM.fin],by simp[PM.fin]⟩,trivial,rfl⟩
theorem len1 {t:List Nat} {b:Nat}:(t++[b]).length=t.length+1:=by simp
theorem step_bare {m:PM} (h:m.raw = .bare) (b:Nat):m.step b=m.next b:=by unfold PM.step;rw[h]
theorem sim_step {kn:Bool} {n b:Nat} {p:Ph} {m:PM} (S:Sim kn n p m) (hb:b<=1) (hn:n+1<=65536):Sim kn (n+1) (stepS kn p b) (m.step b):=by
 obtain⟨hkn,his,hkk,hpb,hph⟩:=S
 cases p with
 | fin s =>
   have hr:m.raw = .over:=hph
   have:m.step b=m:=by unfold PM.step;rw[hr]
   rw[this]
   exact⟨hkn,his,hkk,trivial,hr⟩
 | dyn x =>
   have D:Dy kn x m:=hph
   obtain⟨hx,hxl⟩:=hpb
   have hxl':(x++[b]).length<=n+1:=by simp;omega
   show Sim kn (n+1) (if full x then (if b=lastB x then .fin (badS 4) else .dyn (x++[b])) else afterJ (x++[b]) (tell x++[b]) (judge kn (tell x++[b]))) (m.step b)
   cases hf:full x with
   | true =>
     rw[if_pos rfl]
     by_cases e:b=lastB x
     ·rw[if_pos e,dy_bad D hf e]
      exact sim_fin hkn _
     ·rw[if_neg e]
      obtain⟨d1,d2,d3,d4,d5⟩:=dy_stuff D hf e
      exact⟨d3.trans hkn,d2.trans his,⟨by rw[d4];exact hkk.r,by rw[d5];exact hkk.p,by rw[d4];exact hkk.lr,by rw[d5];exact hkk.lp⟩,⟨bits_more hx hb,hxl'⟩,d1⟩
   | false =>
     rw[if_neg (by simp)]
     obtain⟨m1,e1,mo,r1,r2,r3,r4,r5,r6,r7,r8,r9,r10,r11,r12,r13⟩:=dy_bit D hkn hx hb (by omega) hf
     have ht:tell (x++[b])=tell x++[b]:=by rw[tell_snoc,hf];rfl
     rw[e1]
     have his1:m1.is=moreS:=r13.trans his
     unfold MOut at mo
     cases hj:judge kn (tell x++[b]) with
     | on =>
       rw[hj] at mo
       obtain⟨nx,f,l,oR,oP,q1,q2,q3,q4⟩:=mo
       rw[q1]
       obtain⟨kR,kP,_⟩:=q2.kinds
       refine⟨r12,his1,⟨?_,?_,?_,?_⟩,⟨bits_more hx hb,hxl'⟩,⟨r1,r2,r3,r4,by rw[ht];exact r5,r6,by rw[ht];exact q2,fun k hk=>r9 k (by rw[<- r7];exact q3 k hk),fun k hk=>by rw[ht];exact r10 k (by rw[<- r8];exact q4 k hk),r11⟩⟩
       ·intro k hk;have:=q3 k hk;rw[r7] at this;exact hkk.r k this
       ·intro k hk;have:=q4 k hk;rw[r8] at this;exact hkk.p k this
       ·show oR.length<=2;rcases kR with e | e | e | e<;>rw[e]<;>decide
       ·show oP.length<=2;rcases kP with e | e | e<;>rw[e]<;>decide
     | bad =>
       rw[hj] at mo
       rw[mo]
       exact sim_fin r12 _
     | alien =>
       rw[hj] at mo
       rw[mo]
       exact sim_fin r12 _
     | cl =>
       rw[hj] at mo
       rw[mo]
       refine⟨r12,his1,⟨(by intro k hk;cases hk),?_,by simp,by simp⟩,trivial,⟨rfl,rfl,rfl,rfl,by simp,.inl ⟨rfl,rfl⟩⟩⟩
       intro k hk;have:k=1:=by simpa using hk
       omega
     | fd =>
       rw[hj] at mo
       obtain⟨q1,q2⟩:=mo
       rw[q1]
       have hk23:kindD (fdN (tell x++[b]))=2\/kindD (fdN (tell x++[b]))=3:=by unfold kindD;split<;>simp
       refine⟨r12,his1,⟨?_,?_,by simp,by simp⟩,⟨bits_more hx hb,by simp,by simpa using hxl'⟩,⟨rfl,rfl,rfl,r2,by rw[ht],by rw[ht],by rw[ht],?_,rfl,?_,.inl ⟨by show 0 < 4;omega,?_,r6⟩⟩⟩
       ·intro k hk;have:k=kindD (fdN (tell x++[b])):=by simpa using hk
        omega
       ·intro k hk;have:k=kindD (fdN (tell x++[b])):=by simpa using hk
        omega
       ·show m1.re _=cN _ ((x++[b])++[])
        rw[ht,List.append_nil]
        exact r9 _ (by rw[<- r7];exact q2)
       ·show 0 < fdM (x++[b])
        unfold fdM
        split<;>omega
       ·show Nx.num 4 0 (.check (numN (tallyL m1.stuffs)) _)=_
        rw[r5,ht]
        rfl
     | xl =>
       rw[hj] at mo
       obtain⟨q1,q2,q3,q4,q5⟩:=mo
       rw[q1]
       refine⟨r12,his1,⟨by rw[show _=m1.oR from rfl,r7];exact hkk.r,by rw[show _=m1.oP from rfl,r8];exact hkk.p,by rw[show _=m1.oR from rfl,r7];exact hkk.lr,by rw[show _=m1.oP from rfl,r8];exact hkk.lp⟩,⟨bits_more hx hb,by simpa using hxl'⟩,⟨rfl,by rw[ht],by rw[ht];exact q2,?_,?_,r6,by simp,rfl,?_,r11⟩⟩
       ·exact q5
       ·show m1.stuffs=_
        rw[r5,q3]
       ·rw[ht]
        exact r10 4 (by rw[<- r8];exact q4)
 | fx h y =>
   have F:Fx h y m:=hph
   obtain⟨hh,hy,hl⟩:=hpb
   obtain⟨s1,s2,s3⟩:=fx_step F hh hy hb (by omega)
   show Sim kn (n+1) (if (fgS 4 true (lastB h) (y++[b])).ok then (if (y++[b]).length=fdM h then .tail (fdFits h (y++[b])) (fdF (tell h)) (fdD (tell h)) [] else .fx h (y++[b])) else .fin (badS 4)) (m.step b)
   rw[show fgS 4 true (lastB h) (y++[b])=fxS h (y++[b]) from rfl]
   cases hok:(fxS h (y++[b])).ok with
   | false =>
     rw[if_neg (by simp),s1 hok]
     exact sim_fin hkn _
   | true =>
     rw[if_pos rfl]
     by_cases e:(y++[b]).length=fdM h
     ·rw[if_pos e]
      obtain⟨q1,q2,q3,q4,q5⟩:=s2 hok e
      exact⟨q3.trans hkn,q2.trans his,⟨by rw[q4];exact hkk.r,by rw[q5];exact hkk.p,by rw[q4];exact hkk.lr,by rw[q5];exact hkk.lp⟩,trivial,q1⟩
     ·rw[if_neg e]
      obtain⟨q1,q2,q3,q4,q5⟩:=s3 hok e
      exact⟨q3.trans hkn,q2.trans his,⟨by rw[q4];exact hkk.r,by rw[q5];exact hkk.p,by rw[q4];exact hkk.lr,by rw[q5];exact hkk.lp⟩,⟨hh,bits_more hy hb,by simp;omega⟩,q1⟩
 | xs h y =>
   have F:Xs h y m:=hph
   obtain⟨hh,hl⟩:=hpb
   have hle:=F.len
   rw[step_bare F.raw,next_must F.nx]
   show Sim kn (n+1) (if b=startX.getD y.length 0 then (if y.length=3 then .xd h [] else .xs h (y++[b])) else .fin (badS 5)) _
   have hd:(startX.drop y.length).headD 0=startX.getD y.length 0:=by
    rcases (by omega:y.length=0\/y.length=1\/y.length=2\/y.length=3) with e | e | e | e<;>rw[e]<;>rfl
   unfold PM.mustGo
   rw[hd]
   by_cases e:b=startX.getD y.length 0
   ·rw[if_pos e,if_neg (show ¬(b≠startX.getD y.length 0) from fun q=>q e)]
    by_cases e3:y.length=3
    ·rw[if_pos e3,if_pos (by rw[e3];rfl)]
     refine⟨hkn,his,⟨(by intro k hk;cases hk),?_,by simp[run0,PM.num],by simp[run0,PM.num]⟩,⟨hh,by simp,by simp;omega⟩,⟨rfl,rfl,rfl,fun h=>absurd rfl h,rfl,F.stuffs,F.f12,?_,fun _ => ?_,F.s5⟩⟩
     ·intro k hk;have:k=4\/k=5:=by simpa [run0,PM.num] using hk
      omega
     ·have c:=Xc.a1 (st:=h.length - 17) (tl:=tell h) (O:=[]) (by simp)
      show Xc _ _ [] (.num 8 0 .sdt) m.f m.l m.wrong [4,5]
      rw[F.f,F.l,F.wr]
      exact c
     ·show m.re 4=cN 4 (tell h++[])
      rw[List.append_nil];exact F.s4
    ·rw[if_neg e3,if_neg (by rcases (by omega:y.length=0\/y.length=1\/y.length=2) with e | e | e<;>rw[e]<;>decide)]
     refine⟨hkn,his,⟨hkk.r,hkk.p,hkk.lr,hkk.lp⟩,⟨hh,by simp;omega⟩,⟨F.raw,F.f,F.f12,F.l,F.stuffs,F.wr,by simp;omega,?_,F.s4,F.s5⟩⟩
     show Nx.must (startX.drop y.length).tail .dataPart=_
     rw[List.length_append,List.length_singleton,List.tail_drop]
   ·rw[if_neg e,if_pos e]
    exact sim_fin hkn _
 | xd h y =>
   have F:Xd h y m:=hph
   obtain⟨hh,hy,hl⟩:=hpb
   obtain⟨s1,s2,s3⟩:=xd_step F hh hy hb (by omega)
   show Sim kn (n+1) (if (fgS 8 false 1 (y++[b])).ok then (if xdEnd (y++[b]) then .xe h (y++[b]) [] else .xd h (y++[b])) else .fin (badS 4)) (m.step b)
   cases hok:(fgS 8 false 1 (y++[b])).ok with
   | false =>
     rw[if_neg (by simp),s1 hok]
     exact sim_fin hkn _
   | true =>
     rw[if_pos rfl]
     cases e:xdEnd (y++[b]) with
     | true =>
       rw[if_pos rfl]
       obtain⟨q1,q2,q3,q4,q5,q6⟩:=s2 hok e
       exact⟨q3.trans hkn,q2.trans his,⟨by rw[q6];exact hkk.r,q4,by rw[q6];exact hkk.lr,q5⟩,trivial,q1⟩
     | false =>
       rw[if_neg (by simp)]
       obtain⟨q1,q2,q3,q4⟩:=s3 hok e
       obtain⟨_,i2,_⟩:=q1.cx.info
       refine⟨q3.trans hkn,q2.trans his,⟨by rw[q4];exact hkk.r,?_,by rw[q4];exact hkk.lr,?_⟩,⟨hh,bits_more hy hb,by simp;omega⟩,q1⟩
       ·intro k hk
        rcases i2 with e | e<;>rw[e] at hk
        ·have:k=4\/k=5:=by simpa using hk
         omega
        ·have:k=5:=by simpa using hk
         omega
       ·rcases i2 with e | e<;>rw[e]<;>simp
 | xe h y z =>
   have F:Xe h y z m:=hph
   have hle:=F.len
   rw[step_bare F.raw,next_must F.nx]
   show Sim kn (n+1) (if b=stopX.getD z.length 0 then (if z.length=3 then .tail (xlFits h y) (xlF (tell h) (xo y)) (xlD (xo y)) [] else .xe h y (z++[b])) else .fin (badS 5)) _
   have hd:(stopX.drop z.length).headD 0=stopX.getD z.length 0:=by
    rcases (by omega:z.length=0\/z.length=1\/z.length=2\/z.length=3) with e | e | e | e<;>rw[e]<;>rfl
   unfold PM.mustGo
   rw[hd]
   by_cases e:b=stopX.getD z.length 0
   ·rw[if_pos e,if_neg (show ¬(b≠stopX.getD z.length 0) from fun q=>q e)]
    by_cases e3:z.length=3
    ·rw[if_pos e3,if_pos (by rw[e3];rfl)]
     exact⟨hkn,his,⟨hkk.r,hkk.p,hkk.lr,hkk.lp⟩,trivial,⟨rfl,F.f,F.l,F.wr,by simp,.inl ⟨rfl,rfl⟩⟩⟩
    ·rw[if_neg e3,if_neg (by rcases (by omega:z.length=0\/z.length=1\/z.length=2) with e | e | e<;>rw[e]<;>decide)]
     refine⟨hkn,his,⟨hkk.r,hkk.p,hkk.lr,hkk.lp⟩,trivial,⟨F.raw,F.f,F.l,F.wr,by simp;omega,?_⟩⟩
     show Nx.must (stopX.drop z.length).tail .tail=_
     rw[List.length_append,List.length_singleton,List.tail_drop]
   ·rw[if_neg e,if_pos e]
    exact sim_fin hkn _
 | tail ok f l t =>
   have F:Tl ok f l t m:=hph
   have hle:=F.len
   rw[step_bare F.raw]
   show Sim kn (n+1) (if t.length=2/\ok=false then .fin (badS 6) else if t.length≠1/\b=0 then .fin (badS 5) else if t.length=8 then .fin ⟨2,0,f,l⟩ else .tail ok f l (t++[b])) _
   have kk':∀ nx is,KK { m with nx:=nx,is:=is }:=fun _ _=>⟨hkk.r,hkk.p,hkk.lr,hkk.lp⟩
   rcases F.nx with ⟨n1,n2⟩ | ⟨n1,n2⟩ | ⟨n1,n2⟩ | ⟨n1,n2,n3⟩
   ·rw[next_must n2,if_neg (by omega)]
    have his':m.is=moreS:=by
     rw[his]
     show (if t.length=1/\ok=true then _ else _)=_
     rw[if_neg (by omega)]
     rfl
    by_cases e:b=0
    ·rw[if_pos ⟨by omega,e⟩]
     subst e
     exact sim_fin hkn _
    ·have e1:b=1:=by omega
     subst e1
     rw[if_neg (by omega),if_neg (by omega)]
     have hrun:m.mustGo [1] .delimited 1={ m with is:=if m.wrong then m.is else { m.is with k:=1 },nx := .slot }:=by simp[PM.mustGo];rfl
     rw[hrun]
     refine⟨hkn,?_,kk' _ _,trivial,⟨F.raw,F.f,F.l,F.wr,by rw[len1];omega,.inr (.inl ⟨by rw[len1];omega,rfl⟩)⟩⟩
     show (if m.wrong then m.is else { m.is with k:=1 })=staOf (.tail ok f l (t++[1]))
     rw[F.wr,his']
     have e1:(t++[1]).length=1:=by rw[len1];omega
     cases ok<;>simp[staOf,moreS,n1]
   ·have hnx:m.next b={ m with is:={ m.is with k:=0 },nx := .behind }:=by unfold PM.next;rw[n2]
    rw[hnx,if_neg (by omega),if_neg (by omega),if_neg (by omega)]
    refine⟨hkn,?_,kk' _ _,trivial,⟨F.raw,F.f,F.l,F.wr,by rw[len1];omega,.inr (.inr (.inl ⟨by rw[len1];omega,rfl⟩))⟩⟩
    show ({ m.is with k:=0 }:Sta)=(if (t++[b]).length=1/\ok=true then _ else _)
    rw[if_neg (by rw[len1];omega),his]
    show ({ (if t.length=1/\ok=true then (⟨1,0,noF,[]⟩:Sta) else ⟨0,0,noF,[]⟩) with k:=0 }:Sta)=_
    split<;>rfl
   ·have his':m.is=moreS:=by
     rw[his]
     show (if t.length=1/\ok=true then _ else _)=_
     rw[if_neg (by omega)]
     rfl
    have hnx:m.next b=if m.wrong then m.bad 6 else m.mustGo [1,1,1,1,1,1,1] .done b:=by unfold PM.next;rw[n2]
    rw[hnx,F.wr]
    cases ok with
    | false =>
      rw[if_pos ⟨n1,rfl⟩]
      exact sim_fin hkn _
    | true =>
      rw[if_neg (by simp)]
      show Sim kn (n+1) _ (m.mustGo [1,1,1,1,1,1,1] .done b)
      by_cases e:b=0
      ·rw[if_pos ⟨by omega,e⟩]
       subst e
       exact sim_fin hkn _
      ·have e1:b=1:=by omega
       subst e1
       rw[if_neg (by omega),if_neg (by omega)]
       refine⟨hkn,?_,kk' _ m.is,trivial,⟨F.raw,F.f,F.l,F.wr,by rw[len1];omega,.inr (.inr (.inr ⟨by rw[len1];omega,?_,rfl⟩))⟩⟩
       ·show m.is=(if (t++[1]).length=1/\true=true then _ else _)
        rw[if_neg (by rw[len1];omega),his']
        rfl
       ·show Nx.must [1,1,1,1,1,1] .done=_
        rw[List.length_append,List.length_singleton,n1]
        rfl
   ·subst n3
    have his':m.is=moreS:=by
     rw[his]
     show (if t.length=1/\true=true then _ else _)=_
     rw[if_neg (by omega)]
     rfl
    rw[next_must n2,if_neg (by simp)]
    have hd:(ones (9 - t.length)).headD 0=1:=by
     rw[show 9 - t.length=(8 - t.length)+1 by omega]
     rfl
    have htl:(ones (9 - t.length)).tail=ones (8 - t.length):=by
     rw[show 9 - t.length=(8 - t.length)+1 by omega]
     rfl
    unfold PM.mustGo
    rw[hd,htl]
    by_cases e:b=0
    ·rw[if_pos ⟨by omega,e⟩]
     subst e
     exact sim_fin hkn _
    ·have e1:b=1:=by omega
     subst e1
     rw[if_neg (by omega),if_neg (show ¬((1:Nat)≠1) by simp)]
     by_cases e8:t.length=8
     ·rw[if_pos e8,if_pos (by rw[e8];rfl)]
      show Sim kn (n+1) _ (m.fin ⟨2,0,m.f,m.l⟩)
      rw[F.f,F.l]
      exact sim_fin hkn _
     ·rw[if_neg e8,if_neg (by
       rw[show 8 - t.length=(7 - t.length)+1 by omega]
       simp[ones,List.replicate_succ])]
      refine⟨hkn,?_,kk' _ m.is,trivial,⟨F.raw,F.f,F.l,F.wr,by rw[len1];omega,.inr (.inr (.inr ⟨by rw[len1];omega,?_,rfl⟩))⟩⟩
      ·show m.is=(if (t++[1]).length=1/\true=true then _ else _)
       rw[if_neg (by rw[len1];omega),his']
       rfl
      ·show Nx.must (ones (8 - t.length)) .done=_
       rw[List.length_append,List.length_singleton,show 9 - (t.length+1)=8 - t.length by omega]
end Go.Proofs.YtipefblpppmabaaGreatDoor
namespace Go.Proofs.YtipefblpppmabaaGreatDoor
set_option linter.unusedVariables false
set_option linter.unusedSimpArgs false
open Go.RowKit
def ReP (re:Nat->Nat):Prop:=∀ k,1<=k->k<=5->re k < 2^szK (k:Nat)
theorem kp_sz {k:Nat} (h:1<=k/\k<=5):szK (k:Nat)≠0:=by
 rcases (by omega:k=1\/k=2\/k=3\/k=4\/k=5) with rfl | rfl | rfl | rfl | rfl<;>decide
theorem ReP.feed {re:Nat->Nat} (h:ReP re) (ks:List Nat) (b:Nat):ReP (feedF re ks b):=by
 induction ks generalizing re with
 | nil=>exact h
 | cons j ks ih =>
   show ReP (feedF (updF re j (stepC (szK (j:Nat)) (polyK (j:Nat)) (re j) b)) ks b)
   refine ih ?_
   intro k h1 h2
   unfold updF
   by_cases e:k=j
   ·subst e
    rw[if_pos rfl]
    obtain⟨_,_,n3,_⟩:=kindOk (k:Nat) (kp_sz ⟨h1,h2⟩)
    exact stepC_lt n3
   ·rw[if_neg e]
    exact h k h1 h2
theorem ReP.zero:ReP (fun _=>0):=fun _ _ _=>Nat.two_pow_pos _
structure Le4 (s:Nat) (m r:PM):Prop where
 a:r.alike<=m.alike
 t:r.stuffs<=m.stuffs
 i:r.since<=m.since\/r.since<=4
 l:r.l.length<=m.l.length+s
 e:r.re=m.re\/r.re=fun _=>0
 n:r.seen=m.seen
 s:r.is.l.length<=m.is.l.length\/r.is.l.length<=m.l.length+s
theorem le4_fin (m:PM) (s:Sta) (k:Nat) (hs:s.l.length<=m.l.length):Le4 k m (m.fin s):=⟨Nat.zero_le _,Nat.zero_le _,.inr (Nat.zero_le _),Nat.zero_le _,.inr rfl,rfl,.inr (Nat.le_trans hs (Nat.le_add_right _ _))⟩
theorem le4_run0 (k:K0) (m:PM) (s:Nat):Le4 s m (run0 k m):=by
 cases k
 case done=>exact le4_fin _ _ _ (Nat.le_refl _)
 case delimited=>exact⟨Nat.le_refl _,Nat.le_refl _,.inl (Nat.le_refl _),Nat.le_add_right _ _,.inl rfl,rfl,.inl (by show (if m.wrong then m.is else { m.is with k:=1 }).l.length<=_;split<;>exact Nat.le_refl _)⟩
 all_goals exact⟨Nat.le_refl _,Nat.le_refl _,(by first | exact .inl (Nat.le_refl _) | exact .inr (Nat.le_refl 4) | exact .inr (Nat.zero_le _)),Nat.le_add_right _ _,.inl rfl,rfl,.inl (Nat.le_refl _)⟩
theorem le4_same {m r:PM} {s:Nat} (h1:r.alike=m.alike) (h2:r.stuffs=m.stuffs) (h3:r.since=m.since) (h4:r.l.length<=m.l.length+s) (h5:r.re=m.re) (h6:r.seen=m.seen) (h7:r.is.l.length<=m.is.l.length):Le4 s m r:=⟨by omega,by omega,.inl (by omega),h4,.inl h5,h6,.inl h7⟩
theorem Le4.from {m m1 r:PM} {s:Nat} (h:Le4 0 m1 r) (h1:m1.alike=m.alike) (h2:m1.stuffs=m.stuffs) (h3:m1.since=m.since) (h4:m1.l.length<=m.l.length+s) (h5:m1.re=m.re) (h6:m1.seen=m.seen) (h7:m1.is=m.is):Le4 s m r :=
 ⟨by rw[<- h1];exact h.a,by rw[<- h2];exact h.t,by rw[<- h3];exact h.i,by have:=h.l;omega,by rw[<- h5];exact h.e,by rw[<- h6];exact h.n,by have h8:=h.s;rw[h7] at h8;rcases h8 with q | q;exact .inl q;exact .inr (by omega)⟩
theorem le4_data (m:PM) (n:Nat) (k:K0):Le4 0 m (m.data n k):=by
 unfold PM.data
 split
 ·exact le4_run0 _ _ _
 ·exact le4_same rfl rfl rfl (Nat.le_refl _) rfl rfl (Nat.le_refl _)
theorem le4_runZ (k:KS) (n:Nat) (m:PM):Le4 0 m (runZ k n m):=by
 cases k
 ·exact le4_data _ _ _
 ·exact (le4_data { m with oR:=[kindD n] } n (.fixd (kindD n))).from rfl rfl rfl (Nat.le_refl _) rfl rfl rfl
 ·exact le4_same rfl rfl rfl (Nat.le_refl _) rfl rfl (Nat.le_refl _)
theorem le4_runN (k:KN) (v:Nat) (m:PM):Le4 1 m (runN k v m):=by
 cases k
 case identified=>exact le4_same rfl rfl rfl (Nat.le_add_right _ _) rfl rfl (Nat.le_refl _)
 case longOrNot =>
  show Le4 1 m (if v=3 then _ else if v=1 then _ else _)
  split
  ·exact le4_same rfl rfl rfl (Nat.le_add_right _ _) rfl rfl (Nat.le_refl _)
  ·split
   ·exact le4_fin _ _ _ (Nat.zero_le _)
   ·exact le4_same rfl rfl rfl (Nat.le_add_right _ _) rfl rfl (Nat.le_refl _)
 case prolonged=>exact le4_same rfl rfl rfl (Nat.le_add_right _ _) rfl rfl (Nat.le_refl _)
 case classicOrNot =>
  show Le4 1 m (if v=0 then _ else if m.f.R=true then _ else _)
  split
  ·exact le4_run0 _ _ _
  ·split
   ·exact le4_fin _ _ _ (Nat.zero_le _)
   ·exact le4_same rfl rfl rfl (Nat.le_add_right _ _) rfl rfl (Nat.le_refl _)
 case fdOrXL =>
  show Le4 1 m (if v=0 then _ else if m.kn=true then _ else _)
  split
  ·exact le4_same rfl rfl rfl (Nat.le_add_right _ _) rfl rfl (Nat.le_refl _)
  ·split
   ·exact le4_same rfl rfl rfl (Nat.le_add_right _ _) rfl rfl (Nat.le_refl _)
   ·exact le4_fin _ _ _ (Nat.zero_le _)
 case flag f k=>exact (le4_run0 k { m with f:=setF f (v==1) m.f } 0).from rfl rfl rfl (Nat.le_add_right _ _) rfl rfl rfl
 case size k =>
  show Le4 1 m (if _ then _ else _)
  split
  ·exact le4_fin _ _ _ (Nat.zero_le _)
  ·exact (le4_runZ k _ m).from rfl rfl rfl (Nat.le_add_right _ _) rfl rfl rfl
 case data n k=>exact (le4_data { m with l:=m.l++[v%256] } (n - 1) k).from rfl rfl rfl (by simp) rfl rfl rfl
 case check n k=>exact (le4_run0 k { m with wrong:=m.wrong||v != n } 0).from rfl rfl rfl (Nat.le_add_right _ _) rfl rfl rfl
 case sdt=>exact le4_same rfl rfl rfl (Nat.le_add_right _ _) rfl rfl (Nat.le_refl _)
 case vcid n=>exact le4_same rfl rfl rfl (Nat.le_add_right _ _) rfl rfl (Nat.le_refl _)
 case af n=>exact (le4_data { m with f:={ m.f with A:=(v:Nat) } } n .sumXl).from rfl rfl rfl (Nat.le_add_right _ _) rfl rfl rfl
theorem le4_must (m:PM) (w:List Nat) (k:K0) (b:Nat):Le4 1 m (m.mustGo w k b):=by
 unfold PM.mustGo
 split
 ·exact le4_fin _ _ _ (Nat.zero_le _)
 ·split
  ·exact le4_run0 _ _ _
  ·exact le4_same rfl rfl rfl (Nat.le_add_right _ _) rfl rfl (Nat.le_refl _)
theorem le4_next (m:PM) (b:Nat):Le4 1 m (m.next b):=by
 unfold PM.next
 split
 ·exact le4_same rfl rfl rfl (Nat.le_add_right _ _) rfl rfl (Nat.le_refl _)
 ·split
  ·exact le4_runN _ _ _
  ·exact le4_same rfl rfl rfl (Nat.le_add_right _ _) rfl rfl (Nat.le_refl _)
 ·exact le4_must _ _ _ _
 ·exact le4_same rfl rfl rfl (Nat.le_add_right _ _) rfl rfl (Nat.le_refl _)
 ·split
  ·exact le4_fin _ _ _ (Nat.zero_le _)
  ·exact le4_must _ _ _ _
structure Lo (n:Nat) (m:PM):Prop where
 a:m.alike<=n
 t:m.stuffs<=n
 i:m.since<=n+4
 l:m.l.length<=n
 e:ReP m.re
 s:m.is.l.length<=n
theorem lo_of {n:Nat} {m1 r:PM} (h:Le4 1 m1 r) (h1:m1.alike<=n+1) (h2:m1.stuffs<=n+1) (h3:m1.since<=n+5) (h4:m1.l.length<=n) (h5:ReP m1.re) (h6:m1.is.l.length<=n):Lo (n+1) r :=
 ⟨Nat.le_trans h.a h1,Nat.le_trans h.t h2,by rcases h.i with q | q<;>omega,by have:=h.l;omega,by rcases h.e with q | q<;>rw[q];exact h5;exact ReP.zero,by rcases h.s with q | q<;>omega⟩
theorem lo_step {n b:Nat} {m:PM} (h:Lo n m):Lo (n+1) (m.step b)/\(m.step b).seen=m.seen:=by
 have ha:(m.add b).alike<=n+1:=by
  show (if b=m.last then m.alike+1 else 1)<=n+1
  have:=h.a
  split<;>omega
 have h1:=h.a
 have h2:=h.t
 have h3:=h.i
 have h4:=h.l
 unfold PM.step
 split
 ·split
  ·split
   ·exact⟨lo_of (le4_fin m _ 1 (Nat.zero_le _)) (by omega) (by omega) (by omega) h.l h.e h.s,rfl⟩
   ·exact⟨⟨ha,by show m.stuffs+1<=n+1;omega,by show m.since<=_;omega,by show m.l.length<=_;omega,h.e.feed _ _,Nat.le_succ_of_le h.s⟩,rfl⟩
  ·have q:=le4_next { m.add b with re:=feedF (feedF m.re m.oR b) m.oP b } b
   exact⟨lo_of q ha (by show m.stuffs<=_;omega) (by show m.since<=_;omega) h.l ((h.e.feed _ _).feed _ _) h.s,q.n⟩
 ·split
  ·split
   ·exact⟨lo_of (le4_fin m _ 1 (Nat.zero_le _)) (by omega) (by omega) (by omega) h.l h.e h.s,rfl⟩
   ·exact⟨⟨ha,by show m.stuffs<=_;omega,Nat.zero_le _,by show m.l.length<=_;omega,h.e,Nat.le_succ_of_le h.s⟩,rfl⟩
  ·have q:=le4_next { m.add b with since:=m.since+1,re:=feedF m.re m.oP b } b
   exact⟨lo_of q ha (by show m.stuffs<=_;omega) (by show m.since+1<=_;omega) h.l (h.e.feed _ _) h.s,q.n⟩
 ·have q:=le4_next m b
  exact⟨lo_of q (by omega) (by omega) (by omega) h.l h.e h.s,q.n⟩
 ·exact⟨⟨by omega,by omega,by omega,by omega,h.e,Nat.le_succ_of_le h.s⟩,rfl⟩
theorem Sim.seen {kn:Bool} {n:Nat} {p:Ph} {m:PM} (S:Sim kn n p m) (s:Nat):Sim kn n p { m with seen:=s }:=by
 obtain⟨h1,h2,h3,h4,h5⟩:=S
 refine⟨h1,h2,⟨h3.r,h3.p,h3.lr,h3.lp⟩,h4,?_⟩
 cases p with
 | dyn x=>have h:Dy kn x m:=h5;exact⟨h.raw,h.last,h.alike,h.run5,h.stuffs,h.wr,h.cx,h.sR,h.sP,h.s5⟩
 | fx a y=>have h:Fx a y m:=h5;exact⟨h.raw,h.every,h.since,h.last,h.f,h.l,h.oP,h.re,h.ok,h.len,h.nxt⟩
 | xs a y=>have h:Xs a y m:=h5;exact⟨h.raw,h.f,h.f12,h.l,h.stuffs,h.wr,h.len,h.nx,h.s4,h.s5⟩
 | xd a y=>have h:Xd a y m:=h5;exact⟨h.raw,h.every,h.since,h.last,h.ok,h.stuffs,h.f12,h.cx,h.s4,h.s5⟩
 | xe a y z=>have h:Xe a y z m:=h5;exact⟨h.raw,h.f,h.l,h.wr,h.len,h.nx⟩
 | tail ok f l t=>have h:Tl ok f l t m:=h5;exact⟨h.raw,h.f,h.l,h.wr,h.len,h.nx⟩
 | fin s=>exact h5
theorem Sim.raws {kn:Bool} {n:Nat} {p:Ph} {m:PM} (S:Sim kn n p m):m.isNil=false/\(m.raw = .over\/m.nx ≠ .none):=by
 obtain⟨h1,h2,h3,h4,h5⟩:=S
 unfold PM.isNil
 cases p with
 | dyn x=>have h:Dy kn x m:=h5;rw[h.raw];exact⟨rfl,.inr h.cx.kinds.2.2⟩
 | fx a y=>have h:Fx a y m:=h5;rw[h.raw];exact⟨rfl,.inr (by rcases h.nxt with q | q<;>rw[q.2.1]<;>simp)⟩
 | xs a y=>have h:Xs a y m:=h5;rw[h.raw];exact⟨rfl,.inr (by rw[h.nx];simp)⟩
 | xd a y=>have h:Xd a y m:=h5;rw[h.raw];exact⟨rfl,.inr h.cx.info.2.2⟩
 | xe a y z=>have h:Xe a y z m:=h5;rw[h.raw];exact⟨rfl,.inr (by rw[h.nx];simp)⟩
 | tail ok f l t=>have h:Tl ok f l t m:=h5;rw[h.raw];exact⟨rfl,.inr (by rcases h.nx with q | q | q | q;rw[q.2];simp;rw[q.2];simp;rw[q.2];simp;rw[q.2.1];simp)⟩
 | fin s=>rw[show m.raw = .over from h5];exact⟨rfl,.inl rfl⟩
theorem take_on' {m:PM} (h:m.isNil=false) (b:Nat):m.take b=PM.step { m with seen:=m.seen+1 } b:=by
 unfold PM.take
 rw[h]
 rfl
structure Gd (kn:Bool) (x:List Nat) (m:PM):Prop where
 is:m.is=staOf (scS kn x)
 seen:m.seen=x.length
 lo:Lo x.length m
 kk:KK m
 nn:(x=[]/\m=newM kn)\/(m.isNil=false/\(m.raw = .over\/m.nx ≠ .none))
theorem dy_nil (kn:Bool) (s:Nat):Sim kn 0 (.dyn []) { (newM kn).begin with seen:=s }:=by
 refine⟨rfl,rfl,⟨?_,?_,by simp[PM.begin,PM.must,newM],by simp[PM.begin,PM.must,newM]⟩,⟨by simp,Nat.le_refl _⟩,⟨rfl,rfl,rfl,by decide,rfl,rfl,Cx.s0 rfl,?_,?_,rfl⟩⟩
 ·intro k hk;have:k=2\/k=3:=by simpa [PM.begin,PM.must,newM] using hk
  omega
 ·intro k hk;have:k=1\/k=4:=by simpa [PM.begin,PM.must,newM] using hk
  omega
 ·intro k hk;have:k=2\/k=3:=by simpa [PM.begin,PM.must,newM] using hk
  rcases this with rfl | rfl<;>rfl
 ·intro k hk;have:k=1\/k=4:=by simpa [PM.begin,PM.must,newM] using hk
  rcases this with rfl | rfl<;>rfl
theorem go_all (kn:Bool) {x:List Nat}:(∀ z∈x,z<=1)->x.length<=65536->((x=[]/\goM kn x=newM kn)\/Sim kn x.length (scS kn x) (goM kn x))/\(goM kn x).seen=x.length/\Lo x.length (goM kn x):=by
 refine snocInd (P:=fun x=>(∀ z∈x,z<=1)->x.length<=65536->((x=[]/\goM kn x=newM kn)\/Sim kn x.length (scS kn x) (goM kn x))/\(goM kn x).seen=x.length/\Lo x.length (goM kn x)) (fun _ _=>⟨.inl ⟨rfl,rfl⟩,rfl,⟨Nat.le_refl _,Nat.le_refl _,Nat.zero_le _,Nat.le_refl _,ReP.zero,Nat.le_refl _⟩⟩) (fun x b ih hb hl => ?_) x
 rw[List.length_append,List.length_singleton] at hl ⊢
 obtain⟨i1,i2,i3⟩:=ih (fun z hz=>hb z (List.mem_append_left _ hz)) (by omega)
 have hb1:=hb b (List.mem_append_right _ (List.mem_singleton.2 rfl))
 rw[goM_snoc]
 have hsc:scS kn (x++[b])=stepS kn (scS kn x) b:=goS_snoc kn (.dyn []) x b
 rw[hsc]
 rcases i1 with ⟨rfl,e⟩ | S
 ·rw[e]
  have ht:(newM kn).take b=PM.step { (newM kn).begin with seen:=1 } b:=rfl
  rw[ht]
  have h0:Lo 0 { (newM kn).begin with seen:=1 }:=⟨Nat.le_refl _,Nat.le_refl _,Nat.zero_le _,Nat.le_refl _,fun k h1 h2=>by
   show startF _ k < _
   unfold startF
   rw[if_pos ⟨h1,h2⟩]
   exact (kindOk (k:Nat) (kp_sz ⟨h1,h2⟩)).start,Nat.le_refl _⟩
  obtain⟨q1,q2⟩:=lo_step (b:=b) h0
  exact⟨.inr (sim_step (dy_nil kn 1) hb1 (by omega)),q2,q1⟩
 ·rw[take_on' S.raws.1]
  have h0:Lo x.length { goM kn x with seen:=(goM kn x).seen+1 }:=⟨i3.a,i3.t,i3.i,i3.l,i3.e,i3.s⟩
  obtain⟨q1,q2⟩:=lo_step (b:=b) h0
  exact⟨.inr (sim_step (S.seen _) hb1 (by omega)),q2.trans (by show (goM kn x).seen+1=_;rw[i2]),q1⟩
theorem go_gd (kn:Bool) {x:List Nat} (hb:∀ z∈x,z<=1) (hl:x.length<=65536):Gd kn x (goM kn x):=by
 obtain⟨i1,i2,i3⟩:=go_all kn hb hl
 rcases i1 with ⟨rfl,e⟩ | S
 ·exact⟨rfl,i2,i3,⟨(by intro k hk;cases hk),(by intro k hk;cases hk),by simp[goM,newM],by simp[goM,newM]⟩,.inl ⟨rfl,e⟩⟩
 ·exact⟨S.is,i2,i3,S.kk,.inr S.raws⟩
end Go.Proofs.YtipefblpppmabaaGreatDoor
