/- The program's machine of plain data against the document's automaton: the part with dynamic stuffing, what comes next by the bits that are there. No program here. No conditions. The program's machine of plain data against the document's automaton: a bit more in the part with dynamic stuffing. No program here. No conditions. The program's machine of plain data against the document's automaton: a Classic frame's data and sum, an FD frame's head and data, where kinds part. No program here. No conditions. The program's machine of plain data against the document's automaton: where kinds part, an FD frame's head and data. No program here. No conditions. The program's machine of plain data against the document's automaton: what holds in each part; a raw bit with dynamic stuffing. No program here. No conditions. The program's machine of plain data against the document's automaton: an FD frame's fixed part. No program here. No conditions. The program's machine of plain data against the document's automaton: an XL frame's data part. No program here. No conditions. The program's machine of plain data is what the document's automaton is, bit by bit. No program here. No conditions but the row's length. The program's machine of plain data is what the document's automaton is: all rows; bounds. No program here. No conditions but the row's length. -/
import Derived.Test.YtkjjfnmeogpdbaaGreatDoorScM
namespace Go.Proofs.YtkjjfnmeogpdbaaGreatDoor
set_option linter.unusedVariables false
set_option linter.unusedSimpArgs false
open Go.RowKit
theorem z4w{t:List Nat}{b j:Nat}(h:j<=t.length):(t++[b]).drop j=t.drop j++[b]:=by rw[List.drop_append_of_le_length h]
theorem z0U{t:List Nat}{b i n:Nat}(h:i+n<=t.length):((t++[b]).drop i).take n=(t.drop i).take n:=by
 rw[List.drop_append_of_le_length (by omega),List.take_append_of_le_length (by rw[List.length_drop];omega)]
theorem z0T{t:List Nat}{b n:Nat}(h:n<=t.length):(t++[b]).take n=t.take n:=List.take_append_of_le_length h
theorem zj{t:List Nat}{b i:Nat}(h:i < t.length):zl (t++[b]) i=zl t i:=by rw[zl,List.getD,List.getElem?_append_left h];rfl
theorem z0Y{t:List Nat}{b i:Nat}(h:i=t.length):zl (t++[b]) i=b:=by subst h;simp[zl]
theorem z4Z{t:List Nat}{b i:Nat}(h:i+4<=t.length):z1p (zl (t++[b])) i=z1p (zl t) i:=by
 rw[z1p,z1p,zj (by omega),zj (by omega),zj (by omega),zj (by omega)]
theorem z39{t:List Nat}(h:∀x∈t,x<=1)(i:Nat):zl t i<=1:=by
 unfold zl
 rw[List.getD]
 cases hq:t[i]? with
 | none=>simp
 | some x=>simpa using h x (List.mem_of_getElem? hq)
theorem zg{t:List Nat}{j b:Nat}(h:j<=t.length):zB ((t++[b]).drop j)=zB (t.drop j)*2+b:=by rw[z4w h,z0G]
theorem zp{t:List Nat}{j:Nat}(h:t.length<=j):zB (t.drop j)=0:=by rw[List.drop_eq_nil_of_le h];rfl
theorem z3h{t:List Nat}{j n:Nat}(h:t.length=j+n):zB ((t.drop j).take n)=zB (t.drop j):=by
 rw[List.take_of_length_le (by rw[List.length_drop];omega)]
theorem zdM{t:List Nat}{j:Nat}(h:t.length=j+2):zB (t.drop j)=zl t j*2+zl t (j+1):=by
 have:t.drop j=[zl t j,zl t (j+1)]:=by
  rw[List.drop_eq_getElem_cons (by omega),List.drop_eq_getElem_cons (by omega),List.drop_eq_nil_of_le (by omega)]
  simp[zl,List.getD,(by omega:j < t.length),(by omega:j+1 < t.length)]
 rw[this]
 simp[zB]
theorem z71{t:List Nat}{j:Nat}(h:t.length=j+4):zB (t.drop j)=z1p (zl t) j:=by
 have:t.drop j=[zl t j,zl t (j+1),zl t (j+2),zl t (j+3)]:=by
  rw[List.drop_eq_getElem_cons (by omega),List.drop_eq_getElem_cons (by omega),List.drop_eq_getElem_cons (by omega),List.drop_eq_getElem_cons (by omega),List.drop_eq_nil_of_le (by omega)]
  simp[zl,List.getD,(by omega:j < t.length),(by omega:j+1 < t.length),(by omega:j+1+1 < t.length),(by omega:j+1+1+1 < t.length),(by omega:j+2 < t.length),(by omega:j+3 < t.length)]
 rw[this]
 simp[zB,z1p]
 omega
theorem z3E{t:List Nat}{a n b:Nat}(h:t.length+1=a+8*(n+1)):z0r ((t++[b]).drop a)=z0r (t.drop a)++[zB ((t++[b]).drop (a+8*n))]:=by
 have hl:((t++[b]).drop a).length=8*(n+1):=by rw[List.length_drop,List.length_append,List.length_singleton];omega
 have hl':(t.drop a).length=8*n+7:=by rw[List.length_drop];omega
 unfold z0r
 rw[hl,hl',show 8*(n+1) / 8=n+1 by omega,show(8*n+7) / 8=n by omega,List.range_succ,List.map_append,List.map_singleton]
 congr 1
 ·apply List.map_congr_left
  intro i hi
  have hi':=List.mem_range.1 hi
  congr 1
  rw[List.drop_drop,List.drop_drop,z0U (by omega)]
 ·rw[List.drop_drop,List.take_of_length_le (by rw[List.length_drop,List.length_append,List.length_singleton];omega)]
theorem z3G{t:List Nat}{a b:Nat}(h:a<=t.length)(h8:(t.length+1 - a)%8≠0):z0r ((t++[b]).drop a)=z0r (t.drop a):=by
 have hl:((t++[b]).drop a).length=t.length+1 - a:=by rw[List.length_drop,List.length_append,List.length_singleton]
 have hl':(t.drop a).length=t.length - a:=by rw[List.length_drop]
 unfold z0r
 rw[hl,hl',show(t.length+1 - a) / 8=(t.length - a) / 8 by omega]
 apply List.map_congr_left
 intro i hi
 have hi':=List.mem_range.1 hi
 congr 1
 rw[List.drop_drop,List.drop_drop,z0U (by omega)]
def cN(k:Nat)(l:List Nat):Nat:=z3t (szK (k:Nat)) (z04 (k:Nat)) (zG (k:Nat)) l
theorem z3C(k:Nat)(l:List Nat)(b:Nat):cN k (l++[b])=z2k (szK (k:Nat)) (z04 (k:Nat)) (cN k l) b:=z52 _ _ _ _ _
def idN(t:List Nat):Nat:=zB ((t.drop 1).take 11)
def hdS(t:List Nat):Hd:={ noF with I:=(idN t:Nat) }
def hdR(t:List Nat):Hd:={ hdS t with R:=zl t 12==1 }
def hdX(t:List Nat):Hd:={ hdS t with X:=true }
def hdL(t:List Nat):Hd:={ hdX t with I:=((idN t*262144+zB ((t.drop 14).take 18):Nat):Int) }
def zeD(t:List Nat):Hd:={ hdL t with R:=zl t 32==1 }
theorem z6z{t:List Nat}{b:Nat}(h:12<=t.length):idN (t++[b])=idN t:=by unfold idN;rw[z0U (by omega)]
theorem z4f{t:List Nat}{b:Nat}(h:12<=t.length):hdS (t++[b])=hdS t:=by unfold hdS;rw[z6z h]
theorem z63{t:List Nat}{b:Nat}(h:12<=t.length):hdX (t++[b])=hdX t:=by unfold hdX;rw[z4f h]
theorem z2a{t:List Nat}{b:Nat}(h:13<=t.length):hdR (t++[b])=hdR t:=by unfold hdR;rw[z4f (by omega),zj (by omega)]
theorem z9c{t:List Nat}{b:Nat}(h:32<=t.length):hdL (t++[b])=hdL t:=by unfold hdL;rw[z63 (by omega),z6z (by omega),z0U (by omega)]
theorem z4v{t:List Nat}{b:Nat}(h:33<=t.length):zeD (t++[b])=zeD t:=by unfold zeD;rw[z9c (by omega),zj (by omega)]
theorem z6f{t:List Nat}(h:zl t 13=1):clF t={ zeD t with K:=1 }:=by unfold clF;rw[if_pos h];rfl
theorem z5N{t:List Nat}(h:zl t 13≠1):clF t={ hdR t with K:=1 }:=by unfold clF;rw[if_neg h];rfl
theorem zh4{t:List Nat}(h:∀x∈t,x<=1):idN t < 2048:=by
 have:=z2I ((t.drop 1).take 11) (fun x hx=>h x (List.mem_of_mem_drop (List.mem_of_mem_take hx)))
 refine Nat.lt_of_lt_of_le this (Nat.le_trans (Nat.pow_le_pow_right (by omega) (?_:_<=11)) (by decide))
 rw[List.length_take]
 omega
def z80(t:List Nat)(a:Nat):Prop:=(a=35/\zl t 13=1)\/(a=15/\zl t 13≠1/\zl t 14=0)
inductive Cx (kn:Bool) (t:List Nat):Nx->Hd->List Nat->List Nat->List Nat->Prop where
 | s0:t=[]->Cx kn t (.must [0] .top) noF [] [2,3] [1,4]
 | s1:1<=t.length->t.length < 12->Cx kn t (.num (12 - t.length) (zB (t.drop 1)) .identified) noF [] [2,3] [1,4]
 | s2:12<=t.length->t.length < 14->Cx kn t (.num (14 - t.length) (zB (t.drop 12)) .longOrNot) (hdS t) [] [2,3] [1,4]
 | x1:14<=t.length->t.length < 32->zl t 13=1->Cx kn t (.num (32 - t.length) (zB (t.drop 14)) .prolonged) (hdX t) [] [2,3] [1,4]
 | x2:t.length=32->zl t 13=1->Cx kn t (.num 1 0 (.flag .rtr .heads)) (hdL t) [] [2,3] [1,4]
 | x3:t.length=33->zl t 13=1->Cx kn t (.must [0,0] .classic) (zeD t) [] [2,3] [1,4]
 | x4:t.length=34->zl t 13=1->Cx kn t (.must [0] .classic) (zeD t) [] [2,3] [1,4]
 | c1 (a:Nat):z80 t a->a<=t.length->t.length < a+4->Cx kn t (.num (a+4 - t.length) (zB (t.drop a)) (.size .cl)) (clF t) [] [] [1]
 | c2 (a j c:Nat):z80 t a->a+4+8*j<=t.length->t.length < a+4+8*j+8->z1p (zl t) a=c->j < c->Cx kn t (.num (8 - (t.length - (a+4+8*j))) (zB (t.drop (a+4+8*j))) (.data (c - j) .sumCl)) (clF t) (z0r (t.drop (a+4))) [] [1]
 | c3 (a c:Nat):z80 t a->a+4+8*c<=t.length->t.length < a+4+8*c+15->z1p (zl t) a=c->Cx kn t (.num (15 - (t.length - (a+4+8*c))) (zB (t.drop (a+4+8*c))) (.check (cN 1 (t.take (a+4+8*c))) .tail)) (clF t) (z0r ((t.drop (a+4)).take (8*c))) [] [1]
 | r1:t.length=14->zl t 13≠1->Cx kn t (.num 1 0 .classicOrNot) (hdR t) [] [2,3] [1,4]
 | r2:t.length=15->zl t 13≠1->zl t 14=1->zl t 12=0->Cx kn t (.num 1 0 .fdOrXL) (hdR t) [] [2,3] [1,4]
 | l1:t.length=16->zl t 13≠1->zl t 14=1->zl t 15=1->zl t 12=0->kn=true->Cx kn t (.must [0] .headed) (hdR t) [] [2,3] [1,4]
 | f1:t.length=16->zl t 13≠1->zl t 14=1->zl t 15=0->zl t 12=0->Cx kn t (.num 1 0 (.flag .brs .esi)) { hdR t with K:=2 } [] [2,3] []
 | f2:t.length=17->zl t 13≠1->zl t 14=1->zl t 15=0->zl t 12=0->Cx kn t (.num 1 0 (.flag .esi .fdSize)) { hdR t with K:=2,B:=zl t 16==1 } [] [2,3] []
 | f3:18<=t.length->t.length < 22->zl t 13≠1->zl t 14=1->zl t 15=0->zl t 12=0->Cx kn t (.num (22 - t.length) (zB (t.drop 18)) (.size .sized)) (fdF t) [] [2,3] []
 | f4 (j c:Nat):22+8*j<=t.length->t.length < 22+8*j+8->zl t 13≠1->zl t 14=1->zl t 15=0->zl t 12=0->fdN t=c->j < c->Cx kn t (.num (8 - (t.length - (22+8*j))) (zB (t.drop (22+8*j))) (.data (c - j) (.fixd (zx c)))) (fdF t) (z0r (t.drop 22)) [zx c] []
theorem z0d{m:PM}{left n:Nat}{k:KN}(h:m.nx = .num left n k)(hl:left≠1)(b:Nat):m.next b={ m with nx := .num (left - 1) (n*2+b) k }:=by
 unfold PM.next
 rw[h]
 exact if_neg hl
theorem zF{m:PM}{n:Nat}{k:KN}(h:m.nx = .num 1 n k)(b:Nat):m.next b=z1M k (n*2+b) m:=by
 unfold PM.next
 rw[h]
 exact if_pos rfl
theorem z1m{m:PM}{want:List Nat}{k:K0}(h:m.nx = .must want k)(b:Nat):m.next b=m.mustGo want k b:=by
 unfold PM.next
 rw[h]
theorem zfh(kn:Bool)(g:Nat->Nat):zt kn 1 g=if g 0=1 then .bad else .on:=by unfold zt;rw[if_pos rfl]
theorem zfg{kn:Bool}{n:Nat}{g:Nat->Nat}(h1:n≠1)(h:n < 14):zt kn n g = .on:=by unfold zt;rw[if_neg h1,if_pos h]
theorem zin(kn:Bool)(g:Nat->Nat):zt kn 14 g=if g 13=1/\g 12=0 then .bad else .on:=by unfold zt;rw[if_neg (by omega),if_neg (by omega),if_pos rfl]
theorem z7X{kn:Bool}{n:Nat}{g:Nat->Nat}(h:15<=n)(h13:g 13=1):zt kn n g=if n < 34 then .on else if n=34 then(if g 33=1 then .bad else .on)else if n=35 then(if g 34=1 then .bad else .on)else if n < 39 then .on else z1K n 39 (g 32) (z1p g 35):=by
 unfold zt;rw[if_neg (by omega),if_neg (by omega),if_neg (by omega),if_pos h13]
theorem z6B {kn:Bool} {n:Nat} {g:Nat->Nat} (h:15<=n) (h13:g 13≠1):zt kn n g=if n=15 then(if g 14=1/\g 12=1 then .bad else .on)
    else if g 14=0 then(if n < 19 then .on else z1K n 19 (g 12) (z1p g 15))
    else if n=16 then(if g 15=1/\kn=false then .alien else .on)
    else if g 15=0 then(if n < 22 then .on else if n=22+8*atF 2 (z1p g 18)then .fd else .on)
    else if g 16=1 then .bad else .xl:=by
 unfold zt;rw[if_neg (by omega),if_neg (by omega),if_neg (by omega),if_neg h13]
theorem z6p{kn:Bool}{t:List Nat}{a:Nat}(h:z80 t a)(hn:a < t.length):zy kn t=if t.length < a+4 then .on else z1K t.length (a+4) (if zl t 13=1 then zl t 32 else zl t 12) (z1p (zl t) a):=by
 unfold zy
 rcases h with ⟨rfl,h13⟩ | ⟨rfl,h13,h14⟩
 ·rw[z7X (by omega) h13,if_neg (by omega),if_neg (by omega),if_neg (by omega),if_pos h13]
 ·rw[z6B (by omega) h13,if_neg (by omega),if_pos h14,if_neg h13]
def z36(kn:Bool)(t':List Nat)(m r:PM):Prop :=
 match zy kn t' with
 | .on=>∃nx f l oR oP,r={ m with nx:=nx,f:=f,l:=l,oR:=oR,oP:=oP }/\Cx kn t' nx f l oR oP/\(∀k∈oR,k∈m.oR)/\(∀k∈oP,k∈m.oP)
 | .bad=>r=m.bad 5
 | .alien=>r=m.fin ⟨4,0,noF,[]⟩
 | .cl=>r={ m with raw := .bare,nx := .must [1] .delimited,f:=clF t',l:=clD t',oR:=[],oP:=[1],wrong := !z1J 1 t' }
 | .fd=>r={ m with raw := .spaced,every:=4,since:=4,oR:=[zx (fdN t')],oP:=[zx (fdN t')],f:=fdF t',l:=fdD t',nx := .num 4 0 (.check (zB (zr m.stuffs)) (.sumFd (zx (fdN t')))) }/\zx (fdN t')∈m.oR
 | .xl=>r={ m with raw := .bare,f:={ hdR t' with K:=3 },nx := .must [1,0,0,1] .dataPart }/\zl t' 12=0/\t'.length=17/\4∈m.oP/\m.l=[]
theorem z36.on{kn:Bool}{t':List Nat}{m r:PM}(hj:zy kn t' = .on){nx:Nx}{f:Hd}{l oR oP:List Nat}(hr:r={ m with nx:=nx,f:=f,l:=l,oR:=oR,oP:=oP })(hc:Cx kn t' nx f l oR oP)(h1:∀k∈oR,k∈m.oR)(h2:∀k∈oP,k∈m.oP):z36 kn t' m r:=by
 unfold z36
 rw[hj]
 exact⟨nx,f,l,oR,oP,hr,hc,h1,h2⟩
theorem z36.bad{kn:Bool}{t':List Nat}{m r:PM}(hj:zy kn t' = .bad)(hr:r=m.bad 5):z36 kn t' m r:=by unfold z36;rw[hj];exact hr
structure Cm(kn:Bool)(t:List Nat)(b:Nat)(m:PM):Prop where
 kn:m.kn=kn
 wr:m.wrong=false
 ht:∀x∈t,x<=1
 hb:b<=1
 hs:∀k∈m.oP,m.re k=cN k (t++[b])
 hl:t.length+1<=65536
theorem Cm.len{kn:Bool}{t:List Nat}{b:Nat}{m:PM}(_:Cm kn t b m):(t++[b]).length=t.length+1:=by simp
theorem Cm.ht'{kn:Bool}{t:List Nat}{b:Nat}{m:PM}(h:Cm kn t b m):∀x∈t++[b],x<=1:=by
 intro x hx
 rcases List.mem_append.1 hx with h1 | h1
 ·exact h.ht x h1
 ·have:=List.mem_singleton.1 h1;have:=h.hb;omega
theorem zhO{kn:Bool}{t:List Nat}{b:Nat}{m:PM}(h:Cm kn t b m)(hnx:m.nx = .must [0] .top)(hf:m.f=noF)(hl:m.l=[])(hR:m.oR=[2,3])(hP:m.oP=[1,4])(h0:t=[]):z36 kn (t++[b]) m (m.next b):=by
 subst h0
 have hb:=h.hb
 rw[z1m hnx,List.nil_append]
 by_cases e:b=0
 ·subst e
  refine .on (nx := .num 11 0 .identified) (f:=m.f) (l:=m.l) (oR:=m.oR) (oP:=m.oP) ?_ (by simp[PM.mustGo];rfl) ?_ (fun _ h=>h) (fun _ h=>h)
  ·unfold zy;exact zfh kn _
  ·rw[hf,hl,hR,hP]
   exact Cx.s1 (kn:=kn) (t:=[0]) (by simp) (by simp)
 ·refine .bad ?_ (by simp[PM.mustGo,e])
  unfold zy
  rw[show([b]:List Nat).length=1 from rfl,zfh,if_pos (by simp[zl];omega)]
theorem zir{kn:Bool}{t:List Nat}{b:Nat}{m:PM}(h:Cm kn t b m)(hnx:m.nx = .num (12 - t.length) (zB (t.drop 1)) .identified)(hf:m.f=noF)(hl:m.l=[])(hR:m.oR=[2,3])(hP:m.oP=[1,4])(h1:1<=t.length)(h2:t.length < 12):z36 kn (t++[b]) m (m.next b):=by
 have hj:zy kn (t++[b]) = .on:=by unfold zy;rw[h.len];exact zfg (by omega) (by omega)
 by_cases e:t.length=11
 ·rw[e]at hnx
  rw[zF hnx,<- zg (by omega)]
  have hid:idN (t++[b])=zB ((t++[b]).drop 1):=z3h (by rw[h.len,e])
  rw[<- hid]
  refine .on hj (nx := .num 2 0 .longOrNot) (f:={ m.f with I:=(idN (t++[b]):Nat) }) (l:=m.l) (oR:=m.oR) (oP:=m.oP) rfl ?_ (fun _ h=>h) (fun _ h=>h)
  rw[hf,hl,hR,hP]
  have c:=Cx.s2 (kn:=kn) (t:=t++[b]) (by rw[h.len];omega) (by rw[h.len];omega)
  rw[zp (by rw[h.len];omega),h.len,e]at c
  exact c
 ·rw[z0d hnx (by omega),<- zg (by omega)]
  refine .on hj (f:=m.f) (l:=m.l) (oR:=m.oR) (oP:=m.oP) rfl ?_ (fun _ h=>h) (fun _ h=>h)
  rw[hf,hl,hR,hP]
  have c:=Cx.s1 (kn:=kn) (t:=t++[b]) (by rw[h.len];omega) (by rw[h.len];omega)
  rw[h.len,show 12 - (t.length+1)=12 - t.length - 1 by omega]at c
  exact c
theorem zis{kn:Bool}{t:List Nat}{b:Nat}{m:PM}(h:Cm kn t b m)(hnx:m.nx = .num (14 - t.length) (zB (t.drop 12)) .longOrNot)(hf:m.f=hdS t)(hl:m.l=[])(hR:m.oR=[2,3])(hP:m.oP=[1,4])(h1:12<=t.length)(h2:t.length < 14):z36 kn (t++[b]) m (m.next b):=by
 by_cases e:t.length=13
 ·rw[e]at hnx
  rw[zF hnx,<- zg (by omega)]
  have hj:zy kn (t++[b])=if zl (t++[b]) 13=1/\zl (t++[b]) 12=0 then .bad else .on:=by unfold zy;rw[h.len,e];exact zin kn _
  rw[zdM (by rw[h.len,e])]
  have g12:=z39 h.ht' 12
  have g13:=z39 h.ht' 13
  have hdr:(t++[b]).drop 14=[]:=List.drop_eq_nil_of_le (by rw[h.len];omega)
  have hs:=z4f (t:=t) (b:=b) h1
  rcases(by omega:(zl (t++[b]) 12=1/\zl (t++[b]) 13=1)\/(zl (t++[b]) 12=0/\zl (t++[b]) 13=1)\/zl (t++[b]) 13=0)with ⟨a1,a2⟩ | ⟨a1,a2⟩ | a2
  ·rw[a1,a2]
   refine .on (by rw[hj,if_neg (by omega)]) (nx := .num 18 0 .prolonged) (f:={ m.f with X:=true }) (l:=m.l) (oR:=m.oR) (oP:=m.oP) rfl ?_ (fun _ h=>h) (fun _ h=>h)
   rw[hf,hl,hR,hP]
   have c:=Cx.x1 (kn:=kn) (t:=t++[b]) (by rw[h.len];omega) (by rw[h.len];omega) a2
   rw[hdr,h.len,e]at c
   unfold hdX at c
   rw[hs]at c
   exact c
  ·rw[a1,a2]
   exact .bad (by rw[hj,if_pos ⟨a2,a1⟩]) rfl
  ·rw[a2]
   have e2:z1M .longOrNot (zl (t++[b]) 12*2+0) m=PM.num { m with f:={ m.f with R:=zl (t++[b]) 12==1 } } 1 .classicOrNot:=by
    rcases(by omega:zl (t++[b]) 12=0\/zl (t++[b]) 12=1)with q | q<;>rw[q]<;>rfl
   rw[e2]
   refine .on (by rw[hj,if_neg (by omega)]) (nx := .num 1 0 .classicOrNot) (f:={ m.f with R:=zl (t++[b]) 12==1 }) (l:=m.l) (oR:=m.oR) (oP:=m.oP) rfl ?_ (fun _ h=>h) (fun _ h=>h)
   rw[hf,hl,hR,hP]
   have c:=Cx.r1 (kn:=kn) (t:=t++[b]) (by rw[h.len,e]) (by omega)
   unfold hdR at c
   rw[hs]at c
   exact c
 ·have hj:zy kn (t++[b]) = .on:=by unfold zy;rw[h.len];exact zfg (by omega) (by omega)
  rw[z0d hnx (by omega),<- zg (by omega)]
  refine .on hj (f:=m.f) (l:=m.l) (oR:=m.oR) (oP:=m.oP) rfl ?_ (fun _ h=>h) (fun _ h=>h)
  rw[hf,hl,hR,hP]
  have c:=Cx.s2 (kn:=kn) (t:=t++[b]) (by rw[h.len];omega) (by rw[h.len];omega)
  rw[h.len,show 14 - (t.length+1)=14 - t.length - 1 by omega,z4f h1]at c
  exact c
theorem zgT(a b:Nat)(ha:a < 4294967296)(hb:b < 4294967296):bits BinOp.or IntKind.u32 (a:Int) (b:Int)=((a ||| b:Nat):Int):=by
 have hx:a ||| b < 2^32:=Nat.or_lt_two_pow (by omega) (by omega)
 have h1:(BitVec.ofInt 32 (a:Int)).toNat=a:=by rw[BitVec.ofInt_natCast,BitVec.toNat_ofNat];exact Nat.mod_eq_of_lt (by omega)
 have h2:(BitVec.ofInt 32 (b:Int)).toNat=b:=by rw[BitVec.ofInt_natCast,BitVec.toNat_ofNat];exact Nat.mod_eq_of_lt (by omega)
 show IntKind.u32.wrap ((BitVec.ofInt 32 (a:Int) ||| BitVec.ofInt 32 (b:Int)).toNat:Int)=_
 rw[BitVec.toNat_or,h1,h2,IntKind.wrap_u32]
 omega
theorem zeH{i v:Nat}(hi:i < 2048)(hv:v < 262144):z7K (i:Nat) v=((i*262144+v:Nat):Int):=by
 unfold z7K
 have e1:((i:Int)*262144%4294967296)=((i*262144:Nat):Int):=by omega
 rw[e1]
 have h1:=zgT (i*262144) v (by omega) (by omega)
 rw[h1]
 have h2:=Nat.two_pow_add_eq_or_of_lt (i:=18) (b:=v) (by omega) i
 rw[show i*262144=2^18*i by omega,<- h2]
theorem ziO{kn:Bool}{t:List Nat}{b:Nat}{m:PM}(h:Cm kn t b m)(hnx:m.nx = .num (32 - t.length) (zB (t.drop 14)) .prolonged)(hf:m.f=hdX t)(hl:m.l=[])(hR:m.oR=[2,3])(hP:m.oP=[1,4])(h1:14<=t.length)(h2:t.length < 32)(h13:zl t 13=1):z36 kn (t++[b]) m (m.next b):=by
 have g13:zl (t++[b]) 13=1:=by rw[zj (by omega),h13]
 have hj:zy kn (t++[b]) = .on:=by unfold zy;rw[h.len,z7X (by omega) g13,if_pos (by omega)]
 by_cases e:t.length=31
 ·rw[e]at hnx
  rw[zF hnx,<- zg (by omega)]
  have hv:zB ((t++[b]).drop 14) < 262144:=by
   have:=z2I ((t++[b]).drop 14) (fun x hx=>h.ht' x (List.mem_of_mem_drop hx))
   rw[List.length_drop,h.len,e]at this
   exact this
  have hE:z7K m.f.I (zB ((t++[b]).drop 14))=((idN t*262144+zB ((t++[b]).drop 14):Nat):Int):=by
   rw[hf]
   exact zeH (zh4 h.ht) hv
  refine .on hj (nx := .num 1 0 (.flag .rtr .heads)) (f:={ m.f with I:=((idN t*262144+zB ((t++[b]).drop 14):Nat):Int) }) (l:=m.l) (oR:=m.oR) (oP:=m.oP) (by rw[<- hE];rfl) ?_ (fun _ h=>h) (fun _ h=>h)
  rw[hf,hl,hR,hP]
  have c:=Cx.x2 (kn:=kn) (t:=t++[b]) (by rw[h.len,e]) g13
  unfold hdL at c
  rw[z63 (by omega),z6z (by omega),z3h (by rw[h.len,e])]at c
  exact c
 ·rw[z0d hnx (by omega),<- zg (by omega)]
  refine .on hj (f:=m.f) (l:=m.l) (oR:=m.oR) (oP:=m.oP) rfl ?_ (fun _ h=>h) (fun _ h=>h)
  rw[hf,hl,hR,hP]
  have c:=Cx.x1 (kn:=kn) (t:=t++[b]) (by rw[h.len];omega) (by rw[h.len];omega) g13
  rw[h.len,show 32 - (t.length+1)=32 - t.length - 1 by omega,z63 (by omega)]at c
  exact c
theorem z6n{b:Nat}(h:b<=1)(n:Nat)(hn:n=b):(0*2+b==1)=(n==1):=by subst hn;congr 1;omega
theorem zhN{kn:Bool}{t:List Nat}{b:Nat}{m:PM}(h:Cm kn t b m)(hnx:m.nx = .num 1 0 (.flag .rtr .heads))(hf:m.f=hdL t)(hl:m.l=[])(hR:m.oR=[2,3])(hP:m.oP=[1,4])(h1:t.length=32)(h13:zl t 13=1):z36 kn (t++[b]) m (m.next b):=by
 have g13:zl (t++[b]) 13=1:=by rw[zj (by omega),h13]
 have hj:zy kn (t++[b]) = .on:=by unfold zy;rw[h.len,z7X (by omega) g13,if_pos (by omega)]
 rw[zF hnx]
 refine .on hj (nx := .must [0,0] .classic) (f:={ m.f with R:=0*2+b==1 }) (l:=m.l) (oR:=m.oR) (oP:=m.oP) rfl ?_ (fun _ h=>h) (fun _ h=>h)
 rw[hf,hl,hR,hP,z6n h.hb (zl (t++[b]) 32) (z0Y (by omega))]
 have c:=Cx.x3 (kn:=kn) (t:=t++[b]) (by rw[h.len,h1]) g13
 unfold zeD at c
 rw[z9c (by omega)]at c
 exact c
theorem ziz{kn:Bool}{t:List Nat}{b:Nat}{m:PM}(h:Cm kn t b m)(hnx:m.nx = .must [0,0] .classic)(hf:m.f=zeD t)(hl:m.l=[])(hR:m.oR=[2,3])(hP:m.oP=[1,4])(h1:t.length=33)(h13:zl t 13=1):z36 kn (t++[b]) m (m.next b):=by
 have g13:zl (t++[b]) 13=1:=by rw[zj (by omega),h13]
 have hb:=h.hb
 have g33:zl (t++[b]) 33=b:=z0Y (by omega)
 have hj:zy kn (t++[b])=if b=1 then .bad else .on:=by unfold zy;rw[h.len,h1,z7X (by omega) g13,if_neg (by omega),if_pos rfl,g33]
 rw[z1m hnx]
 by_cases e:b=0
 ·subst e
  refine .on (by rw[hj,if_neg (by omega)]) (nx := .must [0] .classic) (f:=m.f) (l:=m.l) (oR:=m.oR) (oP:=m.oP) (by simp[PM.mustGo]) ?_ (fun _ h=>h) (fun _ h=>h)
  rw[hf,hl,hR,hP]
  have c:=Cx.x4 (kn:=kn) (t:=t++[0]) (by rw[h.len,h1]) g13
  rw[z4v (by omega)]at c
  exact c
 ·exact .bad (by rw[hj,if_pos (by omega)]) (by simp[PM.mustGo,e])
theorem zia{kn:Bool}{t:List Nat}{b:Nat}{m:PM}(h:Cm kn t b m)(hnx:m.nx = .must [0] .classic)(hf:m.f=zeD t)(hl:m.l=[])(hR:m.oR=[2,3])(hP:m.oP=[1,4])(h1:t.length=34)(h13:zl t 13=1):z36 kn (t++[b]) m (m.next b):=by
 have g13:zl (t++[b]) 13=1:=by rw[zj (by omega),h13]
 have hb:=h.hb
 have g34:zl (t++[b]) 34=b:=z0Y (by omega)
 have hj:zy kn (t++[b])=if b=1 then .bad else .on:=by unfold zy;rw[h.len,h1,z7X (by omega) g13,if_neg (by omega),if_neg (by omega),if_pos rfl,g34]
 rw[z1m hnx]
 by_cases e:b=0
 ·subst e
  refine .on (by rw[hj,if_neg (by omega)]) (nx := .num 4 0 (.size .cl)) (f:={ m.f with K:=1 }) (l:=m.l) (oR:=[]) (oP:=[1]) (by simp[PM.mustGo];rfl) ?_ (by simp) (by rw[hP];simp)
  rw[hf,hl]
  have c:=Cx.c1 (kn:=kn) (t:=t++[0]) 35 (.inl ⟨rfl,g13⟩) (by rw[h.len];omega) (by rw[h.len];omega)
  rw[zp (by rw[h.len];omega),h.len,h1,z6f g13,z4v (by omega)]at c
  exact c
 ·exact .bad (by rw[hj,if_pos (by omega)]) (by simp[PM.mustGo,e])
theorem z80.more{t:List Nat}{a b:Nat}(h:z80 t a)(hn:15<=t.length):z80 (t++[b]) a:=by
 rcases h with ⟨h1,h2⟩ | ⟨h1,h2,h3⟩
 ·exact .inl ⟨h1,by rw[zj (by omega),h2]⟩
 ·exact .inr ⟨h1,by rw[zj (by omega)];exact h2,by rw[zj (by omega),h3]⟩
theorem z80.ge{t:List Nat}{a:Nat}(h:z80 t a):15<=a:=by rcases h with ⟨h1,_⟩ | ⟨h1,_⟩<;>omega
theorem z80.at{t:List Nat}{a:Nat}(h:z80 t a):zdz t=a+4:=by
 unfold zdz
 rcases h with ⟨rfl,h2⟩ | ⟨rfl,h2,_⟩
 ·rw[if_pos h2]
 ·rw[if_neg h2]
theorem z6v{t:List Nat}{a b:Nat}(h:z80 t a)(hn:a<=t.length):clF (t++[b])=clF t:=by
 rcases h with ⟨rfl,h2⟩ | ⟨rfl,h2,_⟩
 ·rw[z6f h2,z6f (by rw[zj (by omega),h2]),z4v (by omega)]
 ·rw[z5N h2,z5N (by rw[zj (by omega)];exact h2),z2a (by omega)]
theorem zhZ{t:List Nat}{a:Nat}(h:z80 t a):(clF t).R=((if zl t 13=1 then zl t 32 else zl t 12)==1)/\(clF t).K=1:=by
 rcases h with ⟨rfl,h2⟩ | ⟨rfl,h2,_⟩
 ·rw[z6f h2,if_pos h2];exact⟨rfl,rfl⟩
 ·rw[z5N h2,if_neg h2];exact⟨rfl,rfl⟩
theorem zi6(v:Nat):(z1a 1 (v:Nat)≠0↔9<=v)/\(v < 9->z0l 1 (v:Nat)=v):=by
 have e:isC 1 (v:Nat)=decide (v < 9):=by
  unfold isC
  rw[show z0S 1=9 from rfl]
  by_cases h:v < 9
  ·rw[decide_eq_true h];simp;omega
  ·rw[decide_eq_false h];simp;omega
 constructor
 ·unfold z1a
  rw[e]
  by_cases h:v < 9
  ·rw[decide_eq_true h];simp;omega
  ·rw[decide_eq_false h];simp;omega
 ·intro h
  unfold z0l
  rw[e,decide_eq_true h,if_pos rfl,Int.toNat_natCast]
  exact at1 v h
theorem zc3{t:List Nat}(h:∀x∈t,x<=1)(i:Nat):z1p (zl t) i < 16:=by
 have a:=z39 h i
 have b:=z39 h (i+1)
 have c:=z39 h (i+2)
 have d:=z39 h (i+3)
 unfold z1p
 omega
theorem z4R{t:List Nat}{j:Nat}(h:∀x∈t,x<=1)(hl:t.length=j+8):zB (t.drop j)%256=zB (t.drop j):=by
 have:=z2I (t.drop j) (fun x hx=>h x (List.mem_of_mem_drop hx))
 rw[List.length_drop,hl,show j+8 - j=8 by omega]at this
 omega
theorem zhH{kn:Bool}{t:List Nat}{b:Nat}{m:PM}(h:Cm kn t b m)(a:Nat)(hnx:m.nx = .num (a+4 - t.length) (zB (t.drop a)) (.size .cl))(hf:m.f=clF t)(hl:m.l=[])(hR:m.oR=[])(hP:m.oP=[1])(hB:z80 t a)(h1:a<=t.length)(h2:t.length < a+4):z36 kn (t++[b]) m (m.next b):=by
 have ha:=hB.ge
 have hB':=hB.more (b:=b) (by omega)
 have hfm:=z6v (b:=b) hB h1
 by_cases e:t.length=a+3
 ·rw[show a+4 - t.length=1 by omega]at hnx
  rw[zF hnx,<- zg (by omega),z71 (by rw[h.len];omega)]
  have hj:zy kn (t++[b])=z1K (a+4) (a+4) (if zl (t++[b]) 13=1 then zl (t++[b]) 32 else zl (t++[b]) 12) (z1p (zl (t++[b])) a):=by
   rw[z6p hB' (by rw[h.len];omega),h.len,if_neg (by omega),show t.length+1=a+4 by omega]
  obtain⟨fR,fK⟩:=zhZ hB'
  rw[hfm]at fR fK
  have hc16:=zc3 h.ht' a
  generalize hcd:z1p (zl (t++[b])) a=c at *
  generalize (if zl (t++[b]) 13=1 then zl (t++[b]) 32 else zl (t++[b]) 12)=r at *
  obtain⟨z1,z2⟩:=zi6 c
  have hrun:z1M (.size .cl) c m=if 9<=c\/(r=1/\0 < c)then m.bad 5 else m.data c .sumCl:=by
   show(if z1a m.f.K c≠0\/(m.f.R=true/\z0l m.f.K c≠0)then m.bad 5 else za6 .cl (z0l m.f.K c) m)=_
   rw[hf,fK,fR]
   by_cases q:9<=c
   ·rw[if_pos (.inl (z1.2 q)),if_pos (.inl q)]
   ·rw[z2 (by omega)]
    by_cases q2:r=1/\0 < c
    ·rw[if_pos (.inr ⟨by rw[beq_iff_eq];exact q2.1,by omega⟩),if_pos (.inr q2)]
    ·rw[if_neg,if_neg]
     ·rfl
     ·rintro(q3 | q3)
      ·omega
      ·exact q2 q3
     ·rintro(q3 | ⟨q3,q4⟩)
      ·exact q (z1.1 q3)
      ·rw[beq_iff_eq]at q3;exact q2 ⟨q3,by omega⟩
  rw[hrun]
  by_cases q:9<=c\/(r=1/\0 < c)
  ·rw[if_pos q]
   refine .bad ?_ rfl
   have q':8 < c\/(r=1/\0 < c):=by
    rcases q with q | q
    ·exact .inl (by omega)
    ·exact .inr q
   rw[hj,z1K,if_pos ⟨rfl,q'⟩]
  ·rw[if_neg q]
   have hon:zy kn (t++[b]) = .on:=by
    rw[hj,z1K,if_neg (by rintro⟨_,q1 | q1⟩;exact q (.inl (by omega));exact q (.inr q1)),if_neg (by omega)]
   by_cases q0:c=0
   ·refine .on hon (nx := .num 15 0 (.check (m.re 1) .tail)) (f:=m.f) (l:=m.l) (oR:=m.oR) (oP:=m.oP) (by unfold PM.data;rw[if_pos q0];rfl) ?_ (fun _ h=>h) (fun _ h=>h)
    rw[h.hs 1 (by rw[hP];simp),hf,hl,hR,hP]
    have cx:=Cx.c3 (kn:=kn) (t:=t++[b]) a 0 hB' (by rw[h.len];omega) (by rw[h.len];omega) (by rw[hcd,q0])
    rw[zp (by rw[h.len];omega),h.len,hfm,List.take_of_length_le (by rw[h.len];omega),show 15 - (t.length+1 - (a+4+8*0))=15 by omega,show 8*0=0 from rfl,List.take_zero]at cx
    exact cx
   ·refine .on hon (nx := .num 8 0 (.data c .sumCl)) (f:=m.f) (l:=m.l) (oR:=m.oR) (oP:=m.oP) (by unfold PM.data;rw[if_neg q0];rfl) ?_ (fun _ h=>h) (fun _ h=>h)
    rw[hf,hl,hR,hP]
    have cx:=Cx.c2 (kn:=kn) (t:=t++[b]) a 0 c hB' (by rw[h.len];omega) (by rw[h.len];omega) hcd (by omega)
    rw[zp (by rw[h.len];omega),h.len,hfm,List.drop_eq_nil_of_le (by rw[h.len];omega),show 8 - (t.length+1 - (a+4+8*0))=8 by omega]at cx
    exact cx
 ·have hon:zy kn (t++[b]) = .on:=by rw[z6p hB' (by rw[h.len];omega),h.len,if_pos (by omega)]
  rw[z0d hnx (by omega),<- zg (by omega)]
  refine .on hon (f:=m.f) (l:=m.l) (oR:=m.oR) (oP:=m.oP) rfl ?_ (fun _ h=>h) (fun _ h=>h)
  rw[hf,hl,hR,hP]
  have cx:=Cx.c1 (kn:=kn) (t:=t++[b]) a hB' (by rw[h.len];omega) (by rw[h.len];omega)
  rw[h.len,show a+4 - (t.length+1)=a+4 - t.length - 1 by omega,hfm]at cx
  exact cx
theorem zib{kn:Bool}{t:List Nat}{b:Nat}{m:PM}(h:Cm kn t b m)(a j c:Nat)(hnx:m.nx = .num (8 - (t.length - (a+4+8*j))) (zB (t.drop (a+4+8*j))) (.data (c - j) .sumCl))(hf:m.f=clF t)(hl:m.l=z0r (t.drop (a+4)))(hR:m.oR=[])(hP:m.oP=[1])(hB:z80 t a)(h1:a+4+8*j<=t.length)(h2:t.length < a+4+8*j+8)(hc:z1p (zl t) a=c)(hjc:j < c):z36 kn (t++[b]) m (m.next b):=by
 have ha:=hB.ge
 have hB':=hB.more (b:=b) (by omega)
 have hfm:=z6v (b:=b) hB (by omega)
 have hc':z1p (zl (t++[b])) a=c:=by rw[z4Z (by omega),hc]
 have hon:zy kn (t++[b]) = .on:=by
  rw[z6p hB' (by rw[h.len];omega),h.len,if_neg (by omega),z1K,hc',if_neg (by rintro⟨q,_⟩;omega),if_neg (by omega)]
 by_cases e:t.length=a+4+8*j+7
 ·rw[show 8 - (t.length - (a+4+8*j))=1 by omega]at hnx
  rw[zF hnx,<- zg (by omega)]
  have hl':m.l++[zB ((t++[b]).drop (a+4+8*j))%256]=z0r ((t++[b]).drop (a+4)):=by
   rw[z4R h.ht' (by rw[h.len];omega),hl,z3E (a:=a+4) (n:=j) (by omega)]
  have hrun:z1M (.data (c - j) .sumCl) (zB ((t++[b]).drop (a+4+8*j))) m=PM.data { m with l:=z0r ((t++[b]).drop (a+4)) } (c - j - 1) .sumCl:=by
   rw[<- hl'];rfl
  rw[hrun]
  by_cases q0:c - j - 1=0
  ·refine .on hon (nx := .num 15 0 (.check (m.re 1) .tail)) (f:=m.f) (l:=z0r ((t++[b]).drop (a+4))) (oR:=m.oR) (oP:=m.oP) (by unfold PM.data;rw[if_pos q0];rfl) ?_ (fun _ h=>h) (fun _ h=>h)
   rw[h.hs 1 (by rw[hP];simp),hf,hR,hP]
   have cx:=Cx.c3 (kn:=kn) (t:=t++[b]) a c hB' (by rw[h.len];omega) (by rw[h.len];omega) hc'
   rw[zp (by rw[h.len];omega),h.len,hfm,List.take_of_length_le (l:=t++[b]) (by rw[h.len];omega),List.take_of_length_le (by rw[List.length_drop,h.len];omega),show 15 - (t.length+1 - (a+4+8*c))=15 by omega]at cx
   exact cx
  ·refine .on hon (nx := .num 8 0 (.data (c - j - 1) .sumCl)) (f:=m.f) (l:=z0r ((t++[b]).drop (a+4))) (oR:=m.oR) (oP:=m.oP) (by unfold PM.data;rw[if_neg q0];rfl) ?_ (fun _ h=>h) (fun _ h=>h)
   rw[hf,hR,hP]
   have cx:=Cx.c2 (kn:=kn) (t:=t++[b]) a (j+1) c hB' (by rw[h.len];omega) (by rw[h.len];omega) hc' (by omega)
   rw[zp (by rw[h.len];omega),h.len,hfm,show 8 - (t.length+1 - (a+4+8*(j+1)))=8 by omega,show c - (j+1)=c - j - 1 by omega]at cx
   exact cx
 ·rw[z0d hnx (by omega),<- zg (by omega)]
  refine .on hon (f:=m.f) (l:=m.l) (oR:=m.oR) (oP:=m.oP) rfl ?_ (fun _ h=>h) (fun _ h=>h)
  rw[hf,hl,hR,hP]
  have cx:=Cx.c2 (kn:=kn) (t:=t++[b]) a j c hB' (by rw[h.len];omega) (by rw[h.len];omega) hc' hjc
  rw[h.len,show 8 - (t.length+1 - (a+4+8*j))=8 - (t.length - (a+4+8*j)) - 1 by omega,hfm,z3G (by omega) (by omega)]at cx
  exact cx
theorem zik{kn:Bool}{t:List Nat}{b:Nat}{m:PM}(h:Cm kn t b m)(a c:Nat)(hnx:m.nx = .num (15 - (t.length - (a+4+8*c))) (zB (t.drop (a+4+8*c))) (.check (cN 1 (t.take (a+4+8*c))) .tail))(hf:m.f=clF t)(hl:m.l=z0r ((t.drop (a+4)).take (8*c)))(hR:m.oR=[])(hP:m.oP=[1])(hB:z80 t a)(h1:a+4+8*c<=t.length)(h2:t.length < a+4+8*c+15)(hc:z1p (zl t) a=c):z36 kn (t++[b]) m (m.next b):=by
 have ha:=hB.ge
 have hB':=hB.more (b:=b) (by omega)
 have hfm:=z6v (b:=b) hB (by omega)
 have hc':z1p (zl (t++[b])) a=c:=by rw[z4Z (by omega),hc]
 have hj:zy kn (t++[b])=if t.length+1=a+4+8*c+15 then .cl else .on:=by
  rw[z6p hB' (by rw[h.len];omega),h.len,if_neg (by omega),z1K,hc',if_neg (by rintro⟨q,_⟩;omega)]
 have htk:(t++[b]).take (a+4+8*c)=t.take (a+4+8*c):=z0T h1
 have hld:z0r (((t++[b]).drop (a+4)).take (8*c))=m.l:=by rw[z0U (by omega),hl]
 by_cases e:t.length=a+4+8*c+14
 ·rw[show 15 - (t.length - (a+4+8*c))=1 by omega]at hnx
  rw[zF hnx,<- zg (by omega)]
  unfold z36
  rw[hj,if_pos (by omega)]
  have hfit:z1J 1 (t++[b])=decide (zB ((t++[b]).drop (a+4+8*c))=cN 1 (t.take (a+4+8*c))):=by
   have hch:chk (t++[b])=true:=z0e h.ht' (by rw[h.len];exact h.hl)
   unfold z1J
   rw[hch,show szK 1=15 from rfl,h.len,show t.length+1 - 15=a+4+8*c by omega,htk,decide_eq_true (show(15:Nat)≠0 by omega),decide_eq_true (show 15<=t.length+1 by omega)]
   rfl
  show z1c .tail { m with wrong:=m.wrong||zB ((t++[b]).drop (a+4+8*c)) != cN 1 (t.take (a+4+8*c)) }=_
  have hcd:clD (t++[b])=m.l:=by
   unfold clD
   rw[hB'.at,show a+4 - 4=a by omega,hc',hld]
  rw[hfit,hfm,hcd,h.wr,<- hf]
  rw[show(false||zB ((t++[b]).drop (a+4+8*c)) != cN 1 (t.take (a+4+8*c))) = !decide (zB ((t++[b]).drop (a+4+8*c))=cN 1 (t.take (a+4+8*c))) by
   rw[Bool.false_or];rfl]
  show({ m with raw := .bare,wrong := !decide (zB ((t++[b]).drop (a+4+8*c))=cN 1 (t.take (a+4+8*c))),nx := .must [1] .delimited }:PM)=_
  rw[hR,hP]
 ·rw[z0d hnx (by omega),<- zg (by omega)]
  refine .on (by rw[hj,if_neg (by omega)]) (f:=m.f) (l:=m.l) (oR:=m.oR) (oP:=m.oP) rfl ?_ (fun _ h=>h) (fun _ h=>h)
  rw[<- hld,hf,hR,hP]
  have cx:=Cx.c3 (kn:=kn) (t:=t++[b]) a c hB' (by rw[h.len];omega) (by rw[h.len];omega) hc'
  rw[h.len,show 15 - (t.length+1 - (a+4+8*c))=15 - (t.length - (a+4+8*c)) - 1 by omega,hfm,htk]at cx
  exact cx
theorem zhT{kn:Bool}{t:List Nat}{b:Nat}{m:PM}(h:Cm kn t b m)(hnx:m.nx = .num 1 0 .classicOrNot)(hf:m.f=hdR t)(hl:m.l=[])(hR:m.oR=[2,3])(hP:m.oP=[1,4])(h1:t.length=14)(h13:zl t 13≠1):z36 kn (t++[b]) m (m.next b):=by
 have g13:zl (t++[b]) 13≠1:=by rw[zj (by omega)];exact h13
 have g14:zl (t++[b]) 14=b:=z0Y (by omega)
 have g12:zl (t++[b]) 12=zl t 12:=zj (by omega)
 have hb:=h.hb
 have hle:=z39 h.ht 12
 have hj:zy kn (t++[b])=if b=1/\zl t 12=1 then .bad else .on:=by unfold zy;rw[h.len,h1,z6B (by omega) g13,if_pos rfl,g14,g12]
 rw[zF hnx]
 have hfr:m.f.R=(zl t 12==1):=by rw[hf];rfl
 by_cases e:b=0
 ·subst e
  refine .on (by rw[hj,if_neg (by omega)]) (nx := .num 4 0 (.size .cl)) (f:={ m.f with K:=1 }) (l:=m.l) (oR:=[]) (oP:=[1]) rfl ?_ (by simp) (by rw[hP];simp)
  rw[hf,hl]
  have c:=Cx.c1 (kn:=kn) (t:=t++[0]) 15 (.inr ⟨rfl,g13,g14⟩) (by rw[h.len];omega) (by rw[h.len];omega)
  rw[zp (by rw[h.len];omega),h.len,h1,z5N g13,z2a (by omega)]at c
  exact c
 ·have e1:b=1:=by omega
  subst e1
  have hrun:z1M .classicOrNot (0*2+1) m=if m.f.R then m.bad 5 else m.num 1 .fdOrXL:=rfl
  rw[hrun,hfr]
  by_cases q:zl t 12=1
  ·rw[q]
   exact .bad (by rw[hj,if_pos ⟨rfl,q⟩]) rfl
  ·have q0:(zl t 12==1)=false:=by rw[beq_eq_false_iff_ne];exact q
   rw[q0]
   refine .on (by rw[hj,if_neg (by rintro⟨_,q1⟩;exact q q1)]) (nx := .num 1 0 .fdOrXL) (f:=m.f) (l:=m.l) (oR:=m.oR) (oP:=m.oP) rfl ?_ (fun _ h=>h) (fun _ h=>h)
   rw[hf,hl,hR,hP]
   have c:=Cx.r2 (kn:=kn) (t:=t++[1]) (by rw[h.len,h1]) g13 g14 (by rw[g12];omega)
   rw[z2a (by omega)]at c
   exact c
theorem zhX{kn:Bool}{t:List Nat}{b:Nat}{m:PM}(h:Cm kn t b m)(hnx:m.nx = .num 1 0 .fdOrXL)(hf:m.f=hdR t)(hl:m.l=[])(hR:m.oR=[2,3])(hP:m.oP=[1,4])(h1:t.length=15)(h13:zl t 13≠1)(h14:zl t 14=1)(h12:zl t 12=0):z36 kn (t++[b]) m (m.next b):=by
 have g13:zl (t++[b]) 13≠1:=by rw[zj (by omega)];exact h13
 have g14:zl (t++[b]) 14=1:=by rw[zj (by omega)];exact h14
 have g12:zl (t++[b]) 12=0:=by rw[zj (by omega)];exact h12
 have g15:zl (t++[b]) 15=b:=z0Y (by omega)
 have hb:=h.hb
 have hj:zy kn (t++[b])=if b=1/\kn=false then .alien else .on:=by unfold zy;rw[h.len,h1,z6B (by omega) g13,if_neg (by omega),if_neg (by omega),if_pos rfl,g15]
 rw[zF hnx]
 by_cases e:b=0
 ·subst e
  refine .on (by rw[hj,if_neg (by omega)]) (nx := .num 1 0 (.flag .brs .esi)) (f:={ m.f with K:=2 }) (l:=m.l) (oR:=m.oR) (oP:=[]) rfl ?_ (fun _ h=>h) (by simp)
  rw[hf,hl,hR]
  have c:=Cx.f1 (kn:=kn) (t:=t++[0]) (by rw[h.len,h1]) g13 g14 g15 g12
  rw[z2a (by omega)]at c
  exact c
 ·have e1:b=1:=by omega
  subst e1
  have hrun:z1M .fdOrXL (0*2+1) m=if m.kn then m.must [0] .headed else m.fin ⟨4,0,noF,[]⟩:=rfl
  rw[hrun,h.kn]
  cases kn with
  | true =>
    refine .on (by rw[hj,if_neg (by simp)]) (nx := .must [0] .headed) (f:=m.f) (l:=m.l) (oR:=m.oR) (oP:=m.oP) rfl ?_ (fun _ h=>h) (fun _ h=>h)
    rw[hf,hl,hR,hP]
    have c:=Cx.l1 (kn:=true) (t:=t++[1]) (by rw[h.len,h1]) g13 g14 g15 g12 rfl
    rw[z2a (by omega)]at c
    exact c
  | false =>
    unfold z36
    rw[hj,if_pos ⟨rfl,rfl⟩]
    rfl
theorem ziq{kn:Bool}{t:List Nat}{b:Nat}{m:PM}(h:Cm kn t b m)(hnx:m.nx = .must [0] .headed)(hf:m.f=hdR t)(hl:m.l=[])(hR:m.oR=[2,3])(hP:m.oP=[1,4])(h1:t.length=16)(h13:zl t 13≠1)(h14:zl t 14=1)(h15:zl t 15=1)(h12:zl t 12=0):z36 kn (t++[b]) m (m.next b):=by
 have g13:zl (t++[b]) 13≠1:=by rw[zj (by omega)];exact h13
 have g14:zl (t++[b]) 14=1:=by rw[zj (by omega)];exact h14
 have g15:zl (t++[b]) 15=1:=by rw[zj (by omega)];exact h15
 have g16:zl (t++[b]) 16=b:=z0Y (by omega)
 have hb:=h.hb
 have hj:zy kn (t++[b])=if b=1 then .bad else .xl:=by unfold zy;rw[h.len,h1,z6B (by omega) g13,if_neg (by omega),if_neg (by omega),if_neg (by omega),if_neg (by omega),g16]
 rw[z1m hnx]
 by_cases e:b=0
 ·subst e
  unfold z36
  rw[hj,if_neg (by omega)]
  have:m.mustGo [0] .headed 0={ m with f:={ m.f with K:=3 },raw := .bare,nx := .must [1,0,0,1] .dataPart }:=by simp[PM.mustGo];rfl
  exact⟨by rw[this,hf,z2a (by omega)],by rw[zj (by omega)];exact h12,by rw[h.len,h1],by rw[hP];simp,hl⟩
 ·exact .bad (by rw[hj,if_pos (by omega)]) (by simp[PM.mustGo,e])
theorem zev{kn:Bool}{t:List Nat}(hn:17<=t.length)(h13:zl t 13≠1)(h14:zl t 14=1)(h15:zl t 15=0):zy kn t=if t.length < 22 then .on else if t.length=22+8*fdN t then .fd else .on:=by
 unfold zy
 rw[z6B (by omega) h13,if_neg (by omega),if_neg (by omega),if_neg (by omega),if_pos h15]
 rfl
theorem zi3{kn:Bool}{t:List Nat}{b:Nat}{m:PM}(h:Cm kn t b m)(hnx:m.nx = .num 1 0 (.flag .brs .esi))(hf:m.f={ hdR t with K:=2 })(hl:m.l=[])(hR:m.oR=[2,3])(hP:m.oP=[])(h1:t.length=16)(h13:zl t 13≠1)(h14:zl t 14=1)(h15:zl t 15=0)(h12:zl t 12=0):z36 kn (t++[b]) m (m.next b):=by
 have g13:zl (t++[b]) 13≠1:=by rw[zj (by omega)];exact h13
 have g14:zl (t++[b]) 14=1:=by rw[zj (by omega)];exact h14
 have g15:zl (t++[b]) 15=0:=by rw[zj (by omega)];exact h15
 have g12:zl (t++[b]) 12=0:=by rw[zj (by omega)];exact h12
 have hj:zy kn (t++[b]) = .on:=by rw[zev (by rw[h.len];omega) g13 g14 g15,if_pos (by rw[h.len];omega)]
 rw[zF hnx]
 refine .on hj (nx := .num 1 0 (.flag .esi .fdSize)) (f:={ m.f with B:=0*2+b==1 }) (l:=m.l) (oR:=m.oR) (oP:=m.oP) rfl ?_ (fun _ h=>h) (fun _ h=>h)
 rw[hf,hl,hR,hP,z6n h.hb (zl (t++[b]) 16) (z0Y (by omega))]
 have c:=Cx.f2 (kn:=kn) (t:=t++[b]) (by rw[h.len,h1]) g13 g14 g15 g12
 rw[z2a (by omega)]at c
 exact c
theorem zih{kn:Bool}{t:List Nat}{b:Nat}{m:PM}(h:Cm kn t b m)(hnx:m.nx = .num 1 0 (.flag .esi .fdSize))(hf:m.f={ hdR t with K:=2,B:=zl t 16==1 })(hl:m.l=[])(hR:m.oR=[2,3])(hP:m.oP=[])(h1:t.length=17)(h13:zl t 13≠1)(h14:zl t 14=1)(h15:zl t 15=0)(h12:zl t 12=0):z36 kn (t++[b]) m (m.next b):=by
 have g13:zl (t++[b]) 13≠1:=by rw[zj (by omega)];exact h13
 have g14:zl (t++[b]) 14=1:=by rw[zj (by omega)];exact h14
 have g15:zl (t++[b]) 15=0:=by rw[zj (by omega)];exact h15
 have g12:zl (t++[b]) 12=0:=by rw[zj (by omega)];exact h12
 have hj:zy kn (t++[b]) = .on:=by rw[zev (by rw[h.len];omega) g13 g14 g15,if_pos (by rw[h.len];omega)]
 rw[zF hnx]
 refine .on hj (nx := .num 4 0 (.size .sized)) (f:={ m.f with E:=0*2+b==1 }) (l:=m.l) (oR:=m.oR) (oP:=m.oP) rfl ?_ (fun _ h=>h) (fun _ h=>h)
 rw[hf,hl,hR,hP,z6n h.hb (zl (t++[b]) 17) (z0Y (by omega))]
 have c:=Cx.f3 (kn:=kn) (t:=t++[b]) (by rw[h.len];omega) (by rw[h.len];omega) g13 g14 g15 g12
 rw[zp (by rw[h.len];omega),h.len,h1]at c
 have e:fdF (t++[b])={ hdR t with K:=2,B:=zl t 16==1,E:=zl (t++[b]) 17==1 }:=by
  unfold fdF hdR hdS idN
  rw[z0U (by omega),zj (i:=16) (by omega),h12]
  rfl
 rw[e]at c
 exact c
theorem z9E{t:List Nat}{b:Nat}(h:18<=t.length):fdF (t++[b])=fdF t:=by unfold fdF;rw[z0U (by omega),zj (by omega),zj (by omega)]
theorem zdr{t:List Nat}{b:Nat}(h:22<=t.length):fdN (t++[b])=fdN t:=by unfold fdN;rw[z4Z (by omega)]
theorem zhG{v:Nat}(h:v < 16):z1a 2 (v:Nat)=0/\z0l 2 (v:Nat)=atF 2 v:=by
 have e:isC 2 (v:Nat)=true:=by
  unfold isC
  rw[show z0S 2=16 from rfl]
  simp
  omega
 exact⟨by unfold z1a;rw[e,if_pos rfl],by unfold z0l;rw[e,if_pos rfl,Int.toNat_natCast]⟩
theorem zfp{kn:Bool}{t':List Nat}{m:PM}{k:Nat}{l:List Nat}(hj:zy kn t' = .fd)(hk:k=zx (fdN t'))(hf:m.f=fdF t')(hl:l=fdD t')(hmem:k∈m.oR)(m':PM)(hm:m'={ m with l:=l,oR:=[k] }):z36 kn t' m (z1c (.fixd k) m'):=by
 unfold z36
 rw[hj]
 subst hm hk hl
 refine⟨?_,hmem⟩
 show({ m with l:=fdD t',oR:=[zx (fdN t')],raw := .spaced,every:=4,since:=4,oP:=[zx (fdN t')],nx := .num 4 0 (.check (zB (zr m.stuffs)) (.sumFd (zx (fdN t')))) }:PM)=_
 rw[<- hf]
theorem zi2{kn:Bool}{t:List Nat}{b:Nat}{m:PM}(h:Cm kn t b m)(hnx:m.nx = .num (22 - t.length) (zB (t.drop 18)) (.size .sized))(hf:m.f=fdF t)(hl:m.l=[])(hR:m.oR=[2,3])(hP:m.oP=[])(h1:18<=t.length)(h2:t.length < 22)(h13:zl t 13≠1)(h14:zl t 14=1)(h15:zl t 15=0)(h12:zl t 12=0):z36 kn (t++[b]) m (m.next b):=by
 have g13:zl (t++[b]) 13≠1:=by rw[zj (by omega)];exact h13
 have g14:zl (t++[b]) 14=1:=by rw[zj (by omega)];exact h14
 have g15:zl (t++[b]) 15=0:=by rw[zj (by omega)];exact h15
 have g12:zl (t++[b]) 12=0:=by rw[zj (by omega)];exact h12
 have hj:=zev (kn:=kn) (t:=t++[b]) (by rw[h.len];omega) g13 g14 g15
 have hfm:=z9E (b:=b) h1
 by_cases e:t.length=21
 ·rw[e]at hnx
  rw[zF hnx,<- zg (by omega),z71 (by rw[h.len];omega)]
  rw[h.len,e,if_neg (by omega)]at hj
  have hc16:=zc3 h.ht' 18
  have hN:fdN (t++[b])=atF 2 (z1p (zl (t++[b])) 18):=rfl
  obtain⟨z1,z2⟩:=zhG hc16
  have hrun:z1M (.size .sized) (z1p (zl (t++[b])) 18) m=PM.data { m with oR:=[zx (fdN (t++[b]))] } (fdN (t++[b])) (.fixd (zx (fdN (t++[b])))):=by
   show(if z1a m.f.K _≠0\/(m.f.R=true/\z0l m.f.K _≠0)then m.bad 5 else za6 .sized (z0l m.f.K _) m)=_
   rw[hf,show(fdF t).K=2 from rfl,z1,z2,if_neg (by rintro(q | ⟨q,_⟩);exact q rfl;cases q),<- hN,<- hf]
   rfl
  rw[hrun]
  generalize hn:fdN (t++[b])=N at *
  have hsub:∀k∈[zx N],k∈m.oR:=by
   rw[hR]
   intro k hk
   have:=List.mem_singleton.1 hk
   subst this
   unfold zx
   split<;>simp
  by_cases q0:N=0
  ·have:PM.data { m with oR:=[zx N] } N (.fixd (zx N))=z1c (.fixd (zx N)) { m with oR:=[zx N] }:=by unfold PM.data;rw[if_pos q0]
   rw[this]
   refine zfp (by rw[hj,if_pos (by omega)]) (by rw[hn]) (by rw[hf,hfm]) (l:=m.l) ?_ (hsub _ (by simp)) _ rfl
   rw[hl]
   unfold fdD
   rw[List.drop_eq_nil_of_le (by rw[h.len];omega)]
   rfl
  ·refine .on (by rw[hj,if_neg (by omega)]) (nx := .num 8 0 (.data N (.fixd (zx N)))) (f:=m.f) (l:=m.l) (oR:=[zx N]) (oP:=m.oP) (by unfold PM.data;rw[if_neg q0];rfl) ?_ hsub (fun _ h=>h)
   rw[hf,hl,hP]
   have c:=Cx.f4 (kn:=kn) (t:=t++[b]) 0 N (by rw[h.len];omega) (by rw[h.len];omega) g13 g14 g15 g12 hn (by omega)
   rw[zp (by rw[h.len];omega),h.len,hfm,List.drop_eq_nil_of_le (by rw[h.len];omega),show 8 - (t.length+1 - (22+8*0))=8 by omega]at c
   exact c
 ·rw[z0d hnx (by omega),<- zg (by omega)]
  refine .on (by rw[hj,if_pos (by rw[h.len];omega)]) (f:=m.f) (l:=m.l) (oR:=m.oR) (oP:=m.oP) rfl ?_ (fun _ h=>h) (fun _ h=>h)
  rw[hf,hl,hR,hP]
  have c:=Cx.f3 (kn:=kn) (t:=t++[b]) (by rw[h.len];omega) (by rw[h.len];omega) g13 g14 g15 g12
  rw[h.len,show 22 - (t.length+1)=22 - t.length - 1 by omega,hfm]at c
  exact c
theorem zhY{kn:Bool}{t:List Nat}{b:Nat}{m:PM}(h:Cm kn t b m)(j c:Nat)(hnx:m.nx = .num (8 - (t.length - (22+8*j))) (zB (t.drop (22+8*j))) (.data (c - j) (.fixd (zx c))))(hf:m.f=fdF t)(hl:m.l=z0r (t.drop 22))(hR:m.oR=[zx c])(hP:m.oP=[])(h1:22+8*j<=t.length)(h2:t.length < 22+8*j+8)(h13:zl t 13≠1)(h14:zl t 14=1)(h15:zl t 15=0)(h12:zl t 12=0)(hc:fdN t=c)(hjc:j < c):z36 kn (t++[b]) m (m.next b):=by
 have g13:zl (t++[b]) 13≠1:=by rw[zj (by omega)];exact h13
 have g14:zl (t++[b]) 14=1:=by rw[zj (by omega)];exact h14
 have g15:zl (t++[b]) 15=0:=by rw[zj (by omega)];exact h15
 have g12:zl (t++[b]) 12=0:=by rw[zj (by omega)];exact h12
 have hfm:=z9E (b:=b) (t:=t) (by omega)
 have hnm:fdN (t++[b])=c:=by rw[zdr (by omega),hc]
 have hj:=zev (kn:=kn) (t:=t++[b]) (by rw[h.len];omega) g13 g14 g15
 rw[h.len,if_neg (by omega),hnm]at hj
 by_cases e:t.length=22+8*j+7
 ·rw[show 8 - (t.length - (22+8*j))=1 by omega]at hnx
  rw[zF hnx,<- zg (by omega)]
  have hl':m.l++[zB ((t++[b]).drop (22+8*j))%256]=z0r ((t++[b]).drop 22):=by
   rw[z4R h.ht' (by rw[h.len];omega),hl,z3E (a:=22) (n:=j) (by omega)]
  have hrun:z1M (.data (c - j) (.fixd (zx c))) (zB ((t++[b]).drop (22+8*j))) m=PM.data { m with l:=z0r ((t++[b]).drop 22) } (c - j - 1) (.fixd (zx c)):=by
   rw[<- hl'];rfl
  rw[hrun]
  by_cases q0:c - j - 1=0
  ·have:PM.data { m with l:=z0r ((t++[b]).drop 22) } (c - j - 1) (.fixd (zx c))=z1c (.fixd (zx c)) { m with l:=z0r ((t++[b]).drop 22) }:=by unfold PM.data;rw[if_pos q0]
   rw[this]
   exact zfp (by rw[hj,if_pos (by omega)]) (by rw[hnm]) (by rw[hf,hfm]) (l:=z0r ((t++[b]).drop 22)) rfl (by rw[hR];simp) _ (by rw[<- hR])
  ·refine .on (by rw[hj,if_neg (by omega)]) (nx := .num 8 0 (.data (c - j - 1) (.fixd (zx c)))) (f:=m.f) (l:=z0r ((t++[b]).drop 22)) (oR:=m.oR) (oP:=m.oP) (by unfold PM.data;rw[if_neg q0];rfl) ?_ (fun _ h=>h) (fun _ h=>h)
   rw[hf,hR,hP]
   have cx:=Cx.f4 (kn:=kn) (t:=t++[b]) (j+1) c (by rw[h.len];omega) (by rw[h.len];omega) g13 g14 g15 g12 hnm (by omega)
   rw[zp (by rw[h.len];omega),h.len,hfm,show 8 - (t.length+1 - (22+8*(j+1)))=8 by omega,show c - (j+1)=c - j - 1 by omega]at cx
   exact cx
 ·rw[z0d hnx (by omega),<- zg (by omega)]
  refine .on (by rw[hj,if_neg (by omega)]) (f:=m.f) (l:=m.l) (oR:=m.oR) (oP:=m.oP) rfl ?_ (fun _ h=>h) (fun _ h=>h)
  rw[hf,hl,hR,hP]
  have cx:=Cx.f4 (kn:=kn) (t:=t++[b]) j c (by rw[h.len];omega) (by rw[h.len];omega) g13 g14 g15 g12 hnm hjc
  rw[h.len,show 8 - (t.length+1 - (22+8*j))=8 - (t.length - (22+8*j)) - 1 by omega,hfm,z3G (by omega) (by omega)]at cx
  exact cx
theorem zfO{kn:Bool}{t:List Nat}{b:Nat}{m:PM}(h:Cm kn t b m)(hc:Cx kn t m.nx m.f m.l m.oR m.oP):z36 kn (t++[b]) m (m.next b):=by
 generalize hnx:m.nx=nx at hc
 generalize hf:m.f=f at hc
 generalize hl:m.l=l at hc
 generalize hR:m.oR=oR at hc
 generalize hP:m.oP=oP at hc
 cases hc with
 | s0 h0=>exact zhO h hnx hf hl hR hP h0
 | s1 h1 h2=>exact zir h hnx hf hl hR hP h1 h2
 | s2 h1 h2=>exact zis h hnx hf hl hR hP h1 h2
 | x1 h1 h2 h3=>exact ziO h hnx hf hl hR hP h1 h2 h3
 | x2 h1 h2=>exact zhN h hnx hf hl hR hP h1 h2
 | x3 h1 h2=>exact ziz h hnx hf hl hR hP h1 h2
 | x4 h1 h2=>exact zia h hnx hf hl hR hP h1 h2
 | c1 a h1 h2 h3=>exact zhH h a hnx hf hl hR hP h1 h2 h3
 | c2 a j c h1 h2 h3 h4 h5=>exact zib h a j c hnx hf hl hR hP h1 h2 h3 h4 h5
 | c3 a c h1 h2 h3 h4=>exact zik h a c hnx hf hl hR hP h1 h2 h3 h4
 | r1 h1 h2=>exact zhT h hnx hf hl hR hP h1 h2
 | r2 h1 h2 h3 h4=>exact zhX h hnx hf hl hR hP h1 h2 h3 h4
 | l1 h1 h2 h3 h4 h5 h6=>exact ziq h hnx hf hl hR hP h1 h2 h3 h4 h5
 | f1 h1 h2 h3 h4 h5=>exact zi3 h hnx hf hl hR hP h1 h2 h3 h4 h5
 | f2 h1 h2 h3 h4 h5=>exact zih h hnx hf hl hR hP h1 h2 h3 h4 h5
 | f3 h1 h2 h3 h4 h5 h6=>exact zi2 h hnx hf hl hR hP h1 h2 h3 h4 h5 h6
 | f4 j c h1 h2 h3 h4 h5 h6 h7 h8=>exact zhY h j c hnx hf hl hR hP h1 h2 h3 h4 h5 h6 h7 h8
theorem z2j{ks:List Nat}{k b:Nat}:∀ {re:Nat->Nat},k∉ks->zL re ks b k=re k:=by
 induction ks with
 | nil=>intro re _;rfl
 | cons j ks ih =>
   intro re h
   have h1:k≠j:=fun e=>h (by rw[e];exact List.mem_cons_self ..)
   have h2:k∉ks:=fun e=>h (List.mem_cons_of_mem _ e)
   show zL (zaR re j _) ks b k=_
   rw[ih h2]
   exact if_neg h1
theorem z3x{ks:List Nat}{k b:Nat}:∀ {re:Nat->Nat},ks.Nodup->k∈ks->zL re ks b k=z2k (szK (k:Nat)) (z04 (k:Nat)) (re k) b:=by
 induction ks with
 | nil=>intro re _ h;cases h
 | cons j ks ih =>
   intro re hn h
   have hn':=List.nodup_cons.1 hn
   show zL (zaR re j (z2k (szK (j:Nat)) (z04 (j:Nat)) (re j) b)) ks b k=_
   by_cases e:k=j
   ·subst e
    rw[z2j hn'.1]
    exact if_pos rfl
   ·rw[ih hn'.2 (by rcases List.mem_cons.1 h with h | h;exact absurd h e;exact h)]
    rw[show zaR re j (z2k (szK (j:Nat)) (z04 (j:Nat)) (re j) b) k=re k from if_neg e]
def KdP(ks:List Nat):Prop:=∀k∈ks,1<=k/\k<=5
structure KK(m:PM):Prop where
 r:KdP m.oR
 p:KdP m.oP
 lr:m.oR.length<=2
 lp:m.oP.length<=2
theorem Cx.kinds{kn:Bool}{t:List Nat}{nx:Nx}{f:Hd}{l oR oP:List Nat}(h:Cx kn t nx f l oR oP):(oR=[2,3]\/oR=[]\/oR=[2]\/oR=[3])/\(oP=[1,4]\/oP=[1]\/oP=[])/\nx ≠ .none:=by
 cases h with
 | f4 j c h1 h2 h3 h4 h5 h6 h7 h8 =>
   refine⟨?_,by simp,by simp⟩
   unfold zx
   split<;>simp
 | _=>exact⟨by simp,by simp,by simp⟩
structure Dy(kn:Bool)(x:List Nat)(m:PM):Prop where
 raw:m.raw = .stuffed
 last:m.last=zm x
 alike:m.alike=(zq x).2
 run5:(zq x).2<=5
 stuffs:m.stuffs=x.length - (zo x).length
 wr:m.wrong=false
 cx:Cx kn (zo x) m.nx m.f m.l m.oR m.oP
 sR:∀k∈m.oR,m.re k=cN k x
 sP:∀k∈m.oP,m.re k=cN k (zo x)
 s5:m.re 5=zG 5
def z4p(E:Nat)(A:Bool)(s:FxS):Nat:=if s.last then 0 else if s.out.length=0 then(if A then E else 0) else(s.out.length - 1)%E+1
def fxS(h y:List Nat):FxS:=fgS 4 true (zm h) y
structure Fx(h y:List Nat)(m:PM):Prop where
 raw:m.raw = .spaced
 every:m.every=4
 since:m.since=z4p 4 true (fxS h y)
 last:m.last=z1i (zm h) y
 f:m.f=fdF (zo h)
 l:m.l=fdD (zo h)
 oP:m.oP=[zx (fdN (zo h))]
 re:m.re (zx (fdN (zo h)))=cN (zx (fdN (zo h))) (h++(fxS h y).out)
 ok:(fxS h y).ok=true
 len:y.length < fdM h
 nxt:((fxS h y).out.length < 4/\m.nx = .num (4 - (fxS h y).out.length) (zB (fxS h y).out) (.check (zB (zr (h.length - (zo h).length))) (.sumFd (zx (fdN (zo h)))))/\m.wrong=false) \/
  (4<=(fxS h y).out.length/\m.nx = .num (szK (zx (fdN (zo h)):Nat)+4 - (fxS h y).out.length) (zB ((fxS h y).out.drop 4)) (.check (cN (zx (fdN (zo h))) (h++(fxS h y).out.take 4)) .tail)/\m.wrong = !decide ((fxS h y).out.take 4=zr (h.length - (zo h).length)))
structure Xs(h y:List Nat)(m:PM):Prop where
 raw:m.raw = .bare
 f:m.f={ hdR (zo h)with K:=3 }
 f12:zl (zo h) 12=0
 l:m.l=[]
 stuffs:m.stuffs=h.length - 17
 wr:m.wrong=false
 len:y.length<=3
 nx:m.nx = .must (zC.drop y.length) .dataPart
 s4:m.re 4=cN 4 (zo h)
 s5:m.re 5=zG 5
structure Tl(ok:Bool)(f:Hd)(l t:List Nat)(m:PM):Prop where
 raw:m.raw = .bare
 f:m.f=f
 l:m.l=l
 wr:m.wrong = !ok
 len:t.length<=8
 nx:(t.length=0/\m.nx = .must [1] .delimited)\/(t.length=1/\m.nx = .slot)\/(t.length=2/\m.nx = .behind)\/(3<=t.length/\m.nx = .must (ones (9 - t.length)) .done/\ok=true)
structure Xe(h y z:List Nat)(m:PM):Prop where
 raw:m.raw = .bare
 f:m.f=xlF (zo h) (xo y)
 l:m.l=xlD (xo y)
 wr:m.wrong = !z4S h y
 len:z.length<=3
 nx:m.nx = .must (z0w.drop z.length) .tail
theorem zbS{x:List Nat}{b:Nat}(h5:(zq x).2<=5)(h:¬((zq x).2=5/\b=zm x)):(zq (x++[b])).2<=5:=by
 rw[z05]
 unfold z1v
 by_cases e:b=(zq x).1
 ·rw[if_pos e]
  have:¬(zq x).2=5:=fun q=>h ⟨q,e⟩
  show(zq x).2+1<=5
  omega
 ·rw[if_neg e];show 1<=5;omega
theorem z9D{x:List Nat}{b:Nat}{m:PM}(hl:m.last=zm x)(ha:m.alike=(zq x).2):(m.add b).last=zm (x++[b])/\(m.add b).alike=(zq (x++[b])).2:=by
 refine⟨by rw[z0J];rfl,?_⟩
 show(if b=m.last then m.alike+1 else 1)=_
 rw[z05,hl,ha]
 unfold z1v zm
 by_cases e:b=(zq x).1
 ·rw[if_pos e,if_pos e]
 ·rw[if_neg e,if_neg e]
theorem zhn {kn:Bool} {x:List Nat} {b:Nat} {m:PM} (h:Dy kn x m) (hkn:m.kn=kn) (hx:∀z∈x,z<=1) (hb:b<=1) (hlen:x.length+1<=65536) (hf:full x=false) :
    ∃m1:PM,m.step b=m1.next b/\z36 kn (zo x++[b]) m1 (m1.next b)/\m1.raw = .stuffed/\m1.last=zm (x++[b])/\m1.alike=(zq (x++[b])).2/\(zq (x++[b])).2<=5/\m1.stuffs=(x++[b]).length - (zo x++[b]).length/\m1.wrong=false /\
     m1.oR=m.oR/\m1.oP=m.oP/\(∀k∈m.oR,m1.re k=cN k (x++[b]))/\(∀k∈m.oP,m1.re k=cN k (zo x++[b]))/\m1.re 5=zG 5/\m1.kn=kn/\m1.is=m.is:=by
 have h5:¬m.alike=5:=by
  rw[h.alike]
  intro e
  unfold full at hf
  rw[e]at hf
  simp at hf
 obtain⟨kR,kP,_⟩:=h.cx.kinds
 have nR:m.oR.Nodup:=by rcases kR with e | e | e | e<;>rw[e]<;>decide
 have nP:m.oP.Nodup:=by rcases kP with e | e | e<;>rw[e]<;>decide
 have dis:∀k∈m.oR,k∉m.oP:=by
  rcases kR with e | e | e | e<;>rcases kP with e' | e' | e'<;>rw[e,e']<;>decide
 have n5:5∉m.oR/\5∉m.oP:=by
  rcases kR with e | e | e | e<;>rcases kP with e' | e' | e'<;>rw[e,e']<;>decide
 obtain⟨a1,a2⟩:=z9D (b:=b) h.last h.alike
 have sP':∀k∈m.oP,zL (zL m.re m.oR b) m.oP b k=cN k (zo x++[b]):=by
  intro k hk
  rw[z3x nP hk,z2j (fun hr=>dis k hr hk),h.sP k hk,z3C]
 have sR':∀k∈m.oR,zL (zL m.re m.oR b) m.oP b k=cN k (x++[b]):=by
  intro k hk
  rw[z2j (dis k hk),z3x nR hk,h.sR k hk,z3C]
 have hst:m.step b=PM.next { m.add b with re:=zL (zL m.re m.oR b) m.oP b } b:=by
  unfold PM.step
  rw[h.raw]
  exact if_neg h5
 have htl:=z1u x
 refine⟨{ m.add b with re:=zL (zL m.re m.oR b) m.oP b },hst,zfO ⟨hkn,h.wr,z2R hx,hb,sP',by omega⟩ h.cx,h.raw,a1,a2,zbS h.run5 (fun e=>h5 (by rw[h.alike];exact e.1)),?_,h.wr,rfl,rfl,sR',sP',?_,hkn,rfl⟩
 ·show m.stuffs=_
  rw[h.stuffs,List.length_append,List.length_append]
  simp
 ·show zL (zL m.re m.oR b) m.oP b 5=_
  rw[z2j n5.2,z2j n5.1,h.s5]
theorem zeT{kn:Bool}{x:List Nat}{b:Nat}{m:PM}(h:Dy kn x m)(hf:full x=true)(hq:b≠zm x):Dy kn (x++[b]) (m.step b)/\(m.step b).is=m.is/\(m.step b).kn=m.kn/\(m.step b).oR=m.oR/\(m.step b).oP=m.oP:=by
 have h5:m.alike=5:=by
  have:5<=(zq x).2:=by unfold full at hf;simpa using hf
  rw[h.alike]
  have:=h.run5
  omega
 have hst:m.step b={ m.add b with re:=zL m.re m.oR b,stuffs:=m.stuffs+1 }:=by
  unfold PM.step
  rw[h.raw]
  show(if m.alike=5 then _ else _)=_
  rw[if_pos h5,if_neg (by rw[h.last];exact hq)]
 obtain⟨kR,kP,_⟩:=h.cx.kinds
 have nR:m.oR.Nodup:=by rcases kR with e | e | e | e<;>rw[e]<;>decide
 have dis:∀k∈m.oP,k∉m.oR:=by
  rcases kR with e | e | e | e<;>rcases kP with e' | e' | e'<;>rw[e,e']<;>decide
 have n5:5∉m.oR:=by
  rcases kR with e | e | e | e<;>rw[e]<;>decide
 obtain⟨a1,a2⟩:=z9D (b:=b) h.last h.alike
 have ht:zo (x++[b])=zo x:=by rw[z0q,hf,if_pos rfl]
 have htl:=z1u x
 rw[hst]
 refine⟨⟨h.raw,a1,a2,zbS h.run5 (fun e=>hq e.2),?_,h.wr,by rw[ht];exact h.cx,fun k hk => ?_,fun k hk => ?_,?_⟩,rfl,rfl,rfl,rfl⟩
 ·show m.stuffs+1=_
  rw[ht,h.stuffs,List.length_append,List.length_singleton]
  omega
 ·show zL m.re m.oR b k=_
  rw[z3x nR hk,h.sR k hk,z3C]
 ·show zL m.re m.oR b k=_
  rw[ht,z2j (dis k hk),h.sP k hk]
 ·show zL m.re m.oR b 5=_
  rw[z2j n5,h.s5]
theorem zhc{kn:Bool}{x:List Nat}{b:Nat}{m:PM}(h:Dy kn x m)(hf:full x=true)(hq:b=zm x):m.step b=m.bad 4:=by
 have h5:m.alike=5:=by
  have:5<=(zq x).2:=by unfold full at hf;simpa using hf
  rw[h.alike]
  have:=h.run5
  omega
 unfold PM.step
 rw[h.raw]
 show(if m.alike=5 then _ else _)=_
 rw[if_pos h5,if_pos (by rw[h.last];exact hq)]
theorem z8N{E:Nat}{A:Bool}{p:Nat}(y:List Nat):(fgS E A p y).last=true->z28 E A (fgS E A p y).out.length=true/\(fgS E A p y).due=false:=by
 refine zz (P:=fun y=>(fgS E A p y).last=true->z28 E A (fgS E A p y).out.length=true/\(fgS E A p y).due=false) (fun h=>by cases h) (fun y b _ h => ?_) y
 have hd:=z4C E A p y
 rw[z0y]at h ⊢
 unfold z0B at h ⊢
 simp only at h ⊢
 rw[h]at hd ⊢
 have:=hd.symm
 rw[Bool.and_eq_true]at this
 exact⟨by simpa using this.2,rfl⟩
theorem z7j{E:Nat}(hE:E=4\/E=8)(A:Bool)(p:Nat)(y:List Nat):z4p E A (fgS E A p y)=E↔(fgS E A p y).due=true:=by
 have hd:=z4C E A p y
 rw[hd]
 unfold z4p z28
 generalize (fgS E A p y).out.length=o
 generalize (fgS E A p y).last=ls
 cases ls with
 | true=>simp;omega
 | false =>
   by_cases h0:o=0
   ·subst h0
    cases A<;>simp<;>omega
   ·rcases hE with rfl | rfl<;>simp[h0]<;>omega
theorem z5K{E:Nat}(hE:E=4\/E=8)(A:Bool)(p:Nat)(y:List Nat)(b:Nat):z4p E A (fgS E A p (y++[b]))=if(fgS E A p y).due then 0 else z4p E A (fgS E A p y)+1:=by
 have hd:=z4C E A p y
 have hl:=z8N (E:=E) (A:=A) (p:=p) y
 rw[z0y]
 unfold z0B z4p
 cases hq:(fgS E A p y).due with
 | true=>simp
 | false =>
   simp only[Bool.false_eq_true,if_false,List.length_append,List.length_singleton]
   rw[hq]at hd
   unfold z28 at hd hl
   generalize (fgS E A p y).out.length=o at *
   cases hls:(fgS E A p y).last with
   | true =>
     rw[hls]at hl
     have h2:=(hl rfl).1
     rw[if_pos rfl,if_neg (by omega)]
     by_cases h0:o=0
     ·subst h0;simp
     ·rw[if_neg h0]at h2
      have:=of_decide_eq_true h2
      rw[show o+1 - 1=o by omega,this]
   | false =>
     rw[hls]at hd
     simp only[Bool.not_false,Bool.true_and]at hd
     rw[if_neg (by omega),if_neg (by simp)]
     by_cases h0:o=0
     ·subst h0
      rw[if_pos rfl]at hd
      rw[<- hd]
      simp
     ·rw[if_neg h0]at hd
      have:=of_decide_eq_false hd.symm
      rw[if_neg h0]
      rcases hE with rfl | rfl<;>omega
theorem z4J{E:Nat}(hE:E=4\/E=8)(A:Bool)(p:Nat)(y:List Nat):y.length=szF E A (fgS E A p y).out.length+(if(fgS E A p y).last then 1 else 0):=by
 refine zz (P:=fun y=>y.length=szF E A (fgS E A p y).out.length+(if(fgS E A p y).last then 1 else 0)) rfl (fun y b ih => ?_) y
 have hd:=z4C E A p y
 have hl:=z8N (E:=E) (A:=A) (p:=p) y
 rw[List.length_append,List.length_singleton,z0y]
 unfold z0B
 simp only
 cases hq:(fgS E A p y).due with
 | true =>
   rw[hq]at hd
   have:(fgS E A p y).last=false:=by
    have:=hd.symm
    rw[Bool.and_eq_true,Bool.not_eq_true']at this
    exact this.1
   rw[this]at ih
   simp at ih ⊢
   exact ih
 | false =>
   simp only[Bool.false_eq_true,if_false,List.length_append,List.length_singleton,Nat.add_zero]
   rw[hq]at hd
   unfold z28 at hd hl
   generalize (fgS E A p y).out.length=o at *
   unfold szF at ih ⊢
   rw[if_neg (by omega:¬o+1=0),show o+1 - 1=o by omega]
   cases hls:(fgS E A p y).last with
   | true =>
     rw[hls]at hl ih
     have h2:=(hl rfl).1
     rw[if_pos rfl]at ih
     by_cases h0:o=0
     ·subst h0
      rw[if_pos rfl]at h2
      subst h2
      rw[if_pos rfl]at ih
      simp
      omega
     ·rw[if_neg h0]at h2 ih
      have:=of_decide_eq_true h2
      rcases hE with rfl | rfl<;>omega
   | false =>
     rw[hls]at hd ih
     simp only[Bool.not_false,Bool.true_and]at hd
     rw[if_neg (by simp:¬(false=true))]at ih
     by_cases h0:o=0
     ·subst h0
      rw[if_pos rfl]at hd ih
      rw[<- hd,ih]
      rcases hE with rfl | rfl<;>rfl
     ·rw[if_neg h0]at hd ih
      have:=of_decide_eq_false hd.symm
      rcases hE with rfl | rfl<;>omega
theorem z5w{m:PM}(hr:m.raw = .spaced){b:Nat}(hd:m.since=m.every)(hq:b=m.last):m.step b=m.bad 4:=by
 unfold PM.step
 rw[hr]
 show(if m.since=m.every then _ else _)=_
 rw[if_pos hd,if_pos hq]
theorem z5r{m:PM}(hr:m.raw = .spaced){b:Nat}(hd:m.since=m.every)(hq:b≠m.last):m.step b={ m.add b with since:=0 }:=by
 unfold PM.step
 rw[hr]
 show(if m.since=m.every then _ else _)=_
 rw[if_pos hd,if_neg hq]
theorem z5I{m:PM}(hr:m.raw = .spaced){b:Nat}(hd:m.since≠m.every):m.step b=PM.next { m.add b with since:=m.since+1,re:=zL m.re m.oP b } b:=by
 unfold PM.step
 rw[hr]
 exact if_neg hd
theorem zbb{l l':List Nat}(h:∀x∈l,x<=1)(h':∀x∈l',x<=1)(hl:l.length=l'.length):(zB l=zB l')↔l=l':=by
 constructor
 ·intro e
  have h1:=z5z l h
  have h2:=z5z l' h'
  rw[<- h1,<- h2,e,hl]
 ·rintro rfl;rfl
theorem zgR{h:List Nat}{n:Nat}(hn:n=zx (fdN (zo h))):szK (n:Nat)=(if 16 < fdN (zo h)then 21 else 17)/\fdM h=szF 4 true (szK (n:Nat)+4):=by
 subst hn
 unfold zx fdM
 split
 ·exact⟨rfl,rfl⟩
 ·exact⟨rfl,rfl⟩
theorem zg9 {h y:List Nat} {b:Nat} {m:PM} (F:Fx h y m) (hh:∀z∈h,z<=1) (hy:∀z∈y,z<=1) (hb:b<=1) (hlen:h.length+y.length+1<=65536) :
    ((fxS h (y++[b])).ok=false->m.step b=m.bad 4) /\
    ((fxS h (y++[b])).ok=true->(y++[b]).length=fdM h->Tl (z3V h (y++[b])) (fdF (zo h)) (fdD (zo h)) [] (m.step b)/\(m.step b).is=m.is/\(m.step b).kn=m.kn/\(m.step b).oR=m.oR/\(m.step b).oP=m.oP) /\
    ((fxS h (y++[b])).ok=true->(y++[b]).length≠fdM h->Fx h (y++[b]) (m.step b)/\(m.step b).is=m.is/\(m.step b).kn=m.kn/\(m.step b).oR=m.oR/\(m.step b).oP=m.oP):=by
 have hprev:=z66 4 true (zm h) y
 have hsd:=z7j (E:=4) (.inl rfl) true (zm h) y
 have hss:=z5K (E:=4) (.inl rfl) true (zm h) y b
 have hfl:=z4J (E:=4) (.inl rfl) true (zm h) (y++[b])
 have hob:=z8F (E:=4) (A:=true) (p:=zm h) hy
 obtain⟨kd,hkd⟩:∃kd,kd=zx (fdN (zo h)):=⟨_,rfl⟩
 have hM:(szK (kd:Nat)=21/\fdM h=32)\/(szK (kd:Nat)=17/\fdM h=27):=by
  obtain⟨z1,z2⟩:=zgR hkd
  rw[z2,z1]
  by_cases q:16 < fdN (zo h)
  ·rw[if_pos q];exact .inl ⟨rfl,rfl⟩
  ·rw[if_neg q];exact .inr ⟨rfl,rfl⟩
 obtain⟨st,hst⟩:∃st,st=h.length - (zo h).length:=⟨_,rfl⟩
 have Fre:=F.re
 have Fnxt:=F.nxt
 have FoP:=F.oP
 rw[<- hkd]at Fre Fnxt FoP
 rw[<- hst]at Fnxt
 have hty:=z0C st
 have htl4:=z02 st
 have hokl:(fxS h y).ok=true:=F.ok
 have hS:fxS h (y++[b])=z0B 4 (fxS h y) b:=z0y 4 true (zm h) y b
 have hlastq:z1i (zm h) (y++[b])=b:=z1C _ _ _
 have hlen1:(y++[b]).length=y.length+1:=by simp
 unfold z3V fdO
 rw[show fgS 4 true (zm h) (y++[b])=fxS h (y++[b])from rfl]at hfl hss ⊢
 rw[show fgS 4 true (zm h) y=fxS h y from rfl]at hprev hsd hss hob
 rw[<- hkd,<- hst]
 have hevery:=F.every
 have hsince:=F.since
 have hlast:=F.last
 rw[<- hprev]at hlast
 cases hdue:(fxS h y).due with
 | true =>
   have hsn:m.since=m.every:=by rw[hsince,hevery];exact hsd.2 hdue
   have hout:(fxS h (y++[b])).out=(fxS h y).out:=by rw[hS];unfold z0B;simp only;rw[hdue,if_pos rfl]
   have hls:(fxS h (y++[b])).last=true:=by rw[hS];unfold z0B;simp only;exact hdue
   have hok:(fxS h (y++[b])).ok = !(b==(fxS h y).prev):=by rw[hS];unfold z0B;simp only;rw[hokl,hdue];simp
   have hlt:¬(y++[b]).length=fdM h:=by
    rw[hls,if_pos rfl,hout]at hfl
    have hd:=z4C 4 true (zm h) y
    rw[show fgS 4 true (zm h) y=fxS h y from rfl,hdue]at hd
    have hd2:=hd.symm
    rw[Bool.and_eq_true]at hd2
    have hd3:=hd2.2
    unfold z28 at hd3
    rw[hfl]
    unfold szF
    generalize (fxS h y).out.length=o at *
    by_cases h0:o=0
    ·rw[if_pos h0];omega
    ·rw[if_neg h0]at hd3 ⊢
     have:=of_decide_eq_true hd3
     rw[show true.toNat=1 from rfl]
     omega
   refine⟨fun e=>z5w F.raw hsn ?_,fun _ e=>absurd e hlt,fun e _ => ?_⟩
   ·rw[hok]at e
    rw[hlast]
    simpa using e
   ·have hq:b≠m.last:=by
     rw[hok]at e
     rw[hlast]
     simpa using e
    rw[z5r F.raw hsn hq]
    refine⟨⟨F.raw,F.every,?_,?_,F.f,F.l,F.oP,?_,e,?_,?_⟩,rfl,rfl,rfl,rfl⟩
    ·show 0=_
     rw[hss,hdue,if_pos rfl]
    ·show b=_
     rw[hlastq]
    ·rw[hout];exact F.re
    ·have:=F.len;omega
    ·rw[hout];exact F.nxt
 | false =>
   have hsn:m.since≠m.every:=by rw[hsince,hevery];intro e;rw[hsd.1 e]at hdue;cases hdue
   have hout:(fxS h (y++[b])).out=(fxS h y).out++[b]:=by rw[hS];unfold z0B;simp only;rw[hdue];rfl
   have hls:(fxS h (y++[b])).last=false:=by rw[hS];unfold z0B;simp only;exact hdue
   have hok:(fxS h (y++[b])).ok=true:=by rw[hS];unfold z0B;simp only;rw[hokl,hdue];simp
   rw[hls,if_neg (by simp),hout]at hfl
   have hre:zL m.re m.oP b kd=cN kd (h++((fxS h y).out++[b])):=by
    rw[FoP,<- List.append_assoc,z3C,<- Fre,z3x (by simp) (by simp)]
   rw[z5I F.raw hsn,hout]
   have htlh:(h++((fxS h y).out++[b])).length<=65536:=by
    have:=zbr 4 true (zm h) y
    rw[show fgS 4 true (zm h) y=fxS h y from rfl]at this
    simp
    omega
   have hFlen:=F.len
   have hob':∀z∈(fxS h y).out++[b],z<=1:=by
    intro z hz
    rcases List.mem_append.1 hz with q | q
    ·exact hob z q
    ·have:=List.mem_singleton.1 q;omega
   generalize hO:(fxS h y).out=O at *
   have hOl:(O++[b]).length=O.length+1:=by simp
   rw[hOl]at hfl
   have hsz:szK (kd:Nat)=21\/szK (kd:Nat)=17:=by rcases hM with q | q;exact .inl q.1;exact .inr q.1
   have hsf:szF 4 true (O.length+1)=O.length+1+O.length / 4+1:=by unfold szF;rw[if_neg (by omega)];rfl
   rw[hsf]at hfl
   have hOlt:O.length+1<=szK (kd:Nat)+4/\((y++[b]).length=fdM h↔O.length+1=szK (kd:Nat)+4):=by
    omega
   rcases Fnxt with ⟨n1,n2,n3⟩ | ⟨n1,n2,n3⟩
   ·refine⟨fun e=>(by rw[hok]at e;cases e),fun _ e => ?_,fun _ e => ?_⟩
    ·have:=hOlt.2.1 e;rcases hsz with q | q<;>omega
    ·by_cases q3:O.length=3
     ·have hnx:m.nx = .num 1 (zB O) (.check (zB (zr st)) (.sumFd kd)):=by rw[n2,q3]
      have hrun:PM.next { m.add b with since:=m.since+1,re:=zL m.re m.oP b } b=PM.num { m.add b with since:=m.since+1,re:=zL m.re m.oP b,wrong:=m.wrong||zB O*2+b != zB (zr st) } (szK (kd:Nat)) (.check (zL m.re m.oP b kd) .tail):=by
       rw[zF (m:={ m.add b with since:=m.since+1,re:=zL m.re m.oP b }) hnx];rfl
      rw[hrun]
      refine⟨⟨F.raw,F.every,?_,by rw[hlastq];rfl,F.f,F.l,F.oP,by rw[<- hkd,hout];exact hre,hok,by rw[hlen1];rw[hlen1]at e;omega,.inr ?_⟩,rfl,rfl,rfl,rfl⟩
      ·show m.since+1=_
       rw[hss,hdue,hsince];rfl
      ·rw[hout,<- hkd,<- hst]
       refine⟨by omega,?_,?_⟩
       ·show Nx.num _ 0 _=_
        rw[hre,List.drop_eq_nil_of_le (by omega),List.take_of_length_le (by omega),hOl,show szK (kd:Nat)+4 - (O.length+1)=szK (kd:Nat) by omega]
        rfl
       ·show(m.wrong||zB O*2+b != zB (zr st))=_
        rw[n3,Bool.false_or,<- z0G,List.take_of_length_le (by omega)]
        have:=zbb hob' hty (by omega)
        by_cases q:O++[b]=zr st
        ·rw[decide_eq_true q,this.2 q];simp
        ·rw[decide_eq_false q]
         have:zB (O++[b])≠zB (zr st):=fun e=>q (this.1 e)
         simp[this]
     ·have hrun:PM.next { m.add b with since:=m.since+1,re:=zL m.re m.oP b } b={ m.add b with since:=m.since+1,re:=zL m.re m.oP b,nx := .num (4 - O.length - 1) (zB O*2+b) (.check (zB (zr st)) (.sumFd kd)) } :=
       z0d (m:={ m.add b with since:=m.since+1,re:=zL m.re m.oP b }) n2 (by omega) b
      rw[hrun]
      refine⟨⟨F.raw,F.every,?_,by rw[hlastq];rfl,F.f,F.l,F.oP,by rw[<- hkd,hout];exact hre,hok,by rw[hlen1];rw[hlen1]at e;omega,.inl ?_⟩,rfl,rfl,rfl,rfl⟩
      ·show m.since+1=_
       rw[hss,hdue,hsince];rfl
      ·rw[hout,<- hkd,<- hst]
       exact⟨by omega,by rw[z0G,hOl,show 4 - (O.length+1)=4 - O.length - 1 by omega],n3⟩
   ·by_cases q3:O.length+1=szK (kd:Nat)+4
    ·refine⟨fun e=>(by rw[hok]at e;cases e),fun _ _ => ?_,fun _ e=>absurd (hOlt.2.2 q3) e⟩
     have hnx:m.nx = .num 1 (zB (O.drop 4)) (.check (cN kd (h++O.take 4)) .tail):=by rw[n2,show szK (kd:Nat)+4 - O.length=1 by omega]
     have hrun:PM.next { m.add b with since:=m.since+1,re:=zL m.re m.oP b } b=PM.must { m.add b with since:=m.since+1,re:=zL m.re m.oP b,wrong:=m.wrong||zB (O.drop 4)*2+b != cN kd (h++O.take 4),raw := .bare } [1] .delimited:=by
      rw[zF (m:={ m.add b with since:=m.since+1,re:=zL m.re m.oP b }) hnx];rfl
     rw[hrun]
     refine⟨⟨rfl,F.f,F.l,?_,by simp,.inl ⟨rfl,rfl⟩⟩,rfl,rfl,rfl,rfl⟩
     show(m.wrong||zB (O.drop 4)*2+b != cN kd (h++O.take 4))=_
     have hch:chk (h++(O++[b]))=true:=z0e (fun z hz=>by
      rcases List.mem_append.1 hz with q | q
      ·exact hh z q
      ·exact hob' z q) htlh
     have hdl:(h++(O++[b])).length=h.length+(szK (kd:Nat)+4):=by rw[List.length_append,hOl,q3]
     have hfit:z1J kd (h++(O++[b]))=decide (zB ((O++[b]).drop 4)=cN kd (h++O.take 4)):=by
      unfold z1J
      rw[hch,hdl,show h.length+(szK (kd:Nat)+4) - szK (kd:Nat)=h.length+4 by omega]
      rw[show(h++(O++[b])).drop (h.length+4)=(O++[b]).drop 4 by rw[List.drop_append];simp[show h.length+4 - h.length=4 by omega]]
      rw[show(h++(O++[b])).take (h.length+4)=h++O.take 4 by rw[List.take_append,List.take_of_length_le (by omega),show h.length+4 - h.length=4 by omega,z0T n1]]
      rw[decide_eq_true (show szK (kd:Nat)≠0 by rcases hsz with q | q<;>omega),decide_eq_true (show szK (kd:Nat)<=h.length+(szK (kd:Nat)+4) by omega)]
      rfl
     rw[hfit,n3,<- z0G,<- z4w n1,z0T n1]
     generalize zB ((O++[b]).drop 4)=A
     generalize cN kd (h++O.take 4)=B
     by_cases p1:O.take 4=zr st<;>by_cases p2:A=B<;>simp[p1,p2]
    ·refine⟨fun e=>(by rw[hok]at e;cases e),fun _ e=>absurd (hOlt.2.1 e) q3,fun _ e => ?_⟩
     have hrun:PM.next { m.add b with since:=m.since+1,re:=zL m.re m.oP b } b={ m.add b with since:=m.since+1,re:=zL m.re m.oP b,nx := .num (szK (kd:Nat)+4 - O.length - 1) (zB (O.drop 4)*2+b) (.check (cN kd (h++O.take 4)) .tail) } :=
      z0d (m:={ m.add b with since:=m.since+1,re:=zL m.re m.oP b }) n2 (by omega) b
     rw[hrun]
     refine⟨⟨F.raw,F.every,?_,by rw[hlastq];rfl,F.f,F.l,F.oP,by rw[<- hkd,hout];exact hre,hok,by rw[hlen1];rw[hlen1]at e;omega,.inr ?_⟩,rfl,rfl,rfl,rfl⟩
     ·show m.since+1=_
      rw[hss,hdue,hsince];rfl
     ·rw[hout,<- hkd,<- hst]
      refine⟨by omega,?_,by rw[z0T n1];exact n3⟩
      rw[z4w n1,z0G,hOl,z0T n1,show szK (kd:Nat)+4 - (O.length+1)=szK (kd:Nat)+4 - O.length - 1 by omega]
theorem zcR{k:Nat}(hz:szK (k:Nat)≠0){A B:List Nat}(hA:∀z∈A,z<=1)(hB:∀z∈B,z<=1)(hl:B.length=szK (k:Nat))(h6:A.length+B.length<=65536):z1J (k:Nat) (A++B)=decide (zB B=cN k A):=by
 have hch:chk (A++B)=true:=z0e (fun z hz=>by
  rcases List.mem_append.1 hz with q | q
  ·exact hA z q
  ·exact hB z q) (by rw[List.length_append];exact h6)
 unfold z1J
 rw[hch,List.length_append,hl,show A.length+szK (k:Nat) - szK (k:Nat)=A.length by omega,List.drop_left,List.take_left,decide_eq_true hz,decide_eq_true (show szK (k:Nat)<=A.length+szK (k:Nat) by omega)]
 rfl
def xf0(tl:List Nat):Hd:={ hdR tl with K:=3 }
def xf1(tl O:List Nat):Hd:={ xf0 tl with D:=(zB (O.take 8):Nat) }
def xf2(tl O:List Nat):Hd:={ xf1 tl O with S:=zl O 8==1 }
def xf3(tl O:List Nat):Hd:={ xf2 tl O with V:=(zB ((O.drop 37).take 8):Nat) }
def xf4(tl O:List Nat):Hd:={ xf3 tl O with A:=(zB ((O.drop 45).take 32):Nat) }
theorem zgQ{tl O:List Nat}(h:zl tl 12=0):xf4 tl O=xlF tl O:=by
 unfold xf4 xf3 xf2 xf1 xf0 hdR hdS idN xlF
 rw[h]
 rfl
theorem z9f{tl O:List Nat}{b:Nat}(h:8<=O.length):xf1 tl (O++[b])=xf1 tl O:=by unfold xf1;rw[z0T h]
theorem z1y{tl O:List Nat}{b:Nat}(h:9<=O.length):xf2 tl (O++[b])=xf2 tl O:=by unfold xf2;rw[z9f (by omega),zj (by omega)]
theorem z6s{tl O:List Nat}{b:Nat}(h:45<=O.length):xf3 tl (O++[b])=xf3 tl O:=by unfold xf3;rw[z1y (by omega),z0U (by omega)]
theorem z4i{tl O:List Nat}{b:Nat}(h:77<=O.length):xf4 tl (O++[b])=xf4 tl O:=by unfold xf4;rw[z6s (by omega),z0U (by omega)]
theorem z2O{O:List Nat}{b:Nat}(h:20<=O.length):xlN (O++[b])=xlN O:=by unfold xlN;rw[z0U (by omega)]
theorem z6k(O:List Nat):1<=xlN O:=by unfold xlN;omega
def okT(st:Nat)(O:List Nat):Bool:=decide ((O.drop 20).take 4=zr st)
def okP(st:Nat)(tl O:List Nat):Bool:=okT st O&&z1J 4 (tl++O.take 37)
theorem z5Y{st:Nat}{O:List Nat}{b:Nat}(h:24<=O.length):okT st (O++[b])=okT st O:=by unfold okT;rw[z0U (by omega)]
theorem z1P{st:Nat}{tl O:List Nat}{b:Nat}(h:37<=O.length):okP st tl (O++[b])=okP st tl O:=by unfold okP;rw[z5Y (by omega),z0T h]
inductive Xc (st:Nat) (tl O:List Nat):Nx->Hd->List Nat->Bool->List Nat->Prop where
 | a1:O.length < 8->Xc st tl O (.num (8 - O.length) (zB O) .sdt) (xf0 tl) [] false [4,5]
 | a2:O.length=8->Xc st tl O (.num 1 0 (.flag .sec .xlSize)) (xf1 tl O) [] false [4,5]
 | a3:9<=O.length->O.length < 20->Xc st tl O (.num (20 - O.length) (zB (O.drop 9)) (.size .checked)) (xf2 tl O) [] false [4,5]
 | a4:20<=O.length->O.length < 24->Xc st tl O (.num (24 - O.length) (zB (O.drop 20)) (.check (zB (zr st)) (.headSum (xlN O)))) (xf2 tl O) [] false [4,5]
 | a5:24<=O.length->O.length < 37->Xc st tl O (.num (37 - O.length) (zB (O.drop 24)) (.check (cN 4 (tl++O.take 24)) (.vc (xlN O)))) (xf2 tl O) [] (!okT st O) [4,5]
 | a6:37<=O.length->O.length < 45->Xc st tl O (.num (45 - O.length) (zB (O.drop 37)) (.vcid (xlN O))) (xf2 tl O) [] (!okP st tl O) [5]
 | a7:45<=O.length->O.length < 77->Xc st tl O (.num (77 - O.length) (zB (O.drop 45)) (.af (xlN O))) (xf3 tl O) [] (!okP st tl O) [5]
 | a8 (j:Nat):77+8*j<=O.length->O.length < 77+8*j+8->j < xlN O->Xc st tl O (.num (8 - (O.length - (77+8*j))) (zB (O.drop (77+8*j))) (.data (xlN O - j) .sumXl)) (xf4 tl O) (z0r (O.drop 77)) (!okP st tl O) [5]
 | a9:77+8*xlN O<=O.length->O.length < 77+8*xlN O+32->Xc st tl O (.num (32 - (O.length - (77+8*xlN O))) (zB (O.drop (77+8*xlN O))) (.check (cN 5 (O.take (77+8*xlN O))) .trailed)) (xf4 tl O) (z0r ((O.drop 77).take (8*xlN O))) (!okP st tl O) [5]
def ziL(st:Nat)(tl O':List Nat)(m r:PM):Prop :=
 (O'.length=109+8*xlN O'/\r={ m with raw := .bare,nx := .must [0,1,1,0] .tail,f:=xf4 tl O',l:=z0r ((O'.drop 77).take (8*xlN O')),wrong := !(okP st tl O'&&z1J 5 O') }) \/
 (O'.length < 109+8*xlN O'/\∃nx f l w oP,r={ m with nx:=nx,f:=f,l:=l,wrong:=w,oP:=oP }/\Xc st tl O' nx f l w oP/\(∀k∈oP,k∈m.oP))
theorem zfG{st:Nat}{tl O:List Nat}{b:Nat}{m:PM}(hc:Xc st tl O m.nx m.f m.l m.wrong m.oP)(ht:∀z∈tl,z<=1)(hO:∀z∈O,z<=1)(hb:b<=1)(h4:4∈m.oP->m.re 4=cN 4 (tl++(O++[b])))(h5:m.re 5=cN 5 (O++[b]))(hst:m.stuffs=st)(h12:zl tl 12=0)(hlen:tl.length+O.length+1<=65536):ziL st tl (O++[b]) m (m.next b):=by
 have hl:(O++[b]).length=O.length+1:=by simp
 have hO':∀z∈O++[b],z<=1:=by
  intro z hz
  rcases List.mem_append.1 hz with q | q
  ·exact hO z q
  ·have:=List.mem_singleton.1 q;omega
 have hN:=z6k (O++[b])
 generalize hnx:m.nx=nx at hc
 generalize hf:m.f=f at hc
 generalize hld:m.l=l at hc
 generalize hw:m.wrong=wr at hc
 generalize hP:m.oP=oP at hc
 cases hc with
 | a1 h1 =>
   refine .inr ⟨by omega,?_⟩
   by_cases e:O.length=7
   ·rw[e]at hnx
    rw[zF hnx,<- z0G]
    have hv:zB (O++[b])%256=zB (O++[b]):=by
     have:=z4R (j:=0) hO' (by rw[hl];omega)
     simpa using this
    refine⟨.num 1 0 (.flag .sec .xlSize),{ m.f with D:=(zB (O++[b])%256:Nat) },m.l,m.wrong,m.oP,rfl,?_,fun _ h=>h⟩
    rw[hv,hf,hld,hw,hP]
    have c:=Xc.a2 (st:=st) (tl:=tl) (O:=O++[b]) (by omega)
    unfold xf1 at c
    rw[List.take_of_length_le (by omega)]at c
    exact c
   ·rw[z0d hnx (by omega),<- z0G]
    refine⟨_,m.f,m.l,m.wrong,m.oP,rfl,?_,fun _ h=>h⟩
    rw[hf,hld,hw,hP]
    have c:=Xc.a1 (st:=st) (tl:=tl) (O:=O++[b]) (by omega)
    rw[hl,show 8 - (O.length+1)=8 - O.length - 1 by omega]at c
    exact c
 | a2 h1 =>
   refine .inr ⟨by omega,?_⟩
   rw[zF hnx]
   refine⟨.num 11 0 (.size .checked),{ m.f with S:=0*2+b==1 },m.l,m.wrong,m.oP,rfl,?_,fun _ h=>h⟩
   rw[hf,hld,hw,hP,z6n hb (zl (O++[b]) 8) (z0Y (by omega))]
   have c:=Xc.a3 (st:=st) (tl:=tl) (O:=O++[b]) (by omega) (by omega)
   unfold xf2 at c
   rw[zp (by omega),hl,h1,z9f (by omega)]at c
   exact c
 | a3 h1 h2 =>
   refine .inr ⟨by omega,?_⟩
   by_cases e:O.length=19
   ·rw[e]at hnx
    rw[zF hnx,<- zg (by omega)]
    have hv:zB ((O++[b]).drop 9) < 2048:=by
     have:=z2I ((O++[b]).drop 9) (fun x hx=>hO' x (List.mem_of_mem_drop hx))
     rw[List.length_drop,hl,e]at this
     exact this
    have hNe:xlN (O++[b])=zB ((O++[b]).drop 9)+1:=by unfold xlN;rw[z3h (by omega)]
    generalize zB ((O++[b]).drop 9)=v at *
    have e3:isC 3 (v:Nat)=true:=by
     unfold isC
     rw[show z0S 3=2048 from rfl]
     simp
     omega
    have z1:z1a 3 (v:Nat)=0:=by unfold z1a;rw[e3,if_pos rfl]
    have z2:z0l 3 (v:Nat)=v+1:=by unfold z0l;rw[e3,if_pos rfl,Int.toNat_natCast];exact at3 v
    have hfR:(xf2 tl O).R=false:=by
     show(zl tl 12==1)=false
     rw[h12];rfl
    have hrun:z1M (.size .checked) v m=PM.num m 4 (.check (zB (zr st)) (.headSum (v+1))):=by
     rw[<- hst]
     show(if z1a m.f.K _≠0\/(m.f.R=true/\z0l m.f.K _≠0)then m.bad 5 else za6 .checked (z0l m.f.K _) m)=_
     rw[hf,show(xf2 tl O).K=3 from rfl,z1,z2,hfR,if_neg (by rintro(q | ⟨q,_⟩);exact q rfl;cases q)]
     rfl
    rw[hrun,<- hNe]
    refine⟨.num 4 0 (.check (zB (zr st)) (.headSum (xlN (O++[b])))),m.f,m.l,m.wrong,m.oP,rfl,?_,fun _ h=>h⟩
    rw[hf,hld,hw,hP]
    have c:=Xc.a4 (st:=st) (tl:=tl) (O:=O++[b]) (by omega) (by omega)
    rw[zp (by omega),hl,e,z1y (by omega)]at c
    exact c
   ·rw[z0d hnx (by omega),<- zg (by omega)]
    refine⟨_,m.f,m.l,m.wrong,m.oP,rfl,?_,fun _ h=>h⟩
    rw[hf,hld,hw,hP]
    have c:=Xc.a3 (st:=st) (tl:=tl) (O:=O++[b]) (by omega) (by omega)
    rw[hl,show 20 - (O.length+1)=20 - O.length - 1 by omega,z1y (by omega)]at c
    exact c
 | a4 h1 h2 =>
   refine .inr ⟨by omega,?_⟩
   have hNm:=z2O (O:=O) (b:=b) h1
   by_cases e:O.length=23
   ·rw[e]at hnx
    rw[zF hnx,<- zg (by omega)]
    refine⟨.num 13 0 (.check (m.re 4) (.vc (xlN O))),m.f,m.l,m.wrong||zB ((O++[b]).drop 20) != zB (zr st),m.oP,rfl,?_,fun _ h=>h⟩
    rw[h4 (by rw[hP];simp),hf,hld,hw,hP]
    have c:=Xc.a5 (st:=st) (tl:=tl) (O:=O++[b]) (by omega) (by omega)
    rw[zp (by omega),hl,e,z1y (by omega),hNm,List.take_of_length_le (by omega)]at c
    have hT:okT st (O++[b]) = !(zB ((O++[b]).drop 20) != zB (zr st)):=by
     unfold okT
     rw[List.take_of_length_le (by rw[List.length_drop];omega)]
     have:=zbb (l:=(O++[b]).drop 20) (l':=zr st) (fun z hz=>hO' z (List.mem_of_mem_drop hz)) (z0C st) (by rw[z02,List.length_drop];omega)
     by_cases q:(O++[b]).drop 20=zr st
     ·rw[decide_eq_true q,this.2 q];simp
     ·rw[decide_eq_false q]
      have:zB ((O++[b]).drop 20)≠zB (zr st):=fun e=>q (this.1 e)
      simp[this]
    rw[hT,Bool.not_not]at c
    rw[Bool.false_or]
    exact c
   ·rw[z0d hnx (by omega),<- zg (by omega)]
    refine⟨_,m.f,m.l,m.wrong,m.oP,rfl,?_,fun _ h=>h⟩
    rw[hf,hld,hw,hP]
    have c:=Xc.a4 (st:=st) (tl:=tl) (O:=O++[b]) (by omega) (by omega)
    rw[hl,show 24 - (O.length+1)=24 - O.length - 1 by omega,z1y (by omega),hNm]at c
    exact c
 | a5 h1 h2 =>
   refine .inr ⟨by omega,?_⟩
   have hNm:=z2O (O:=O) (b:=b) (by omega)
   by_cases e:O.length=36
   ·rw[e]at hnx
    rw[zF hnx,<- zg (by omega)]
    refine⟨.num 8 0 (.vcid (xlN O)),m.f,m.l,m.wrong||zB ((O++[b]).drop 24) != cN 4 (tl++O.take 24),[5],rfl,?_,by rw[hP];simp⟩
    rw[hf,hld,hw]
    have c:=Xc.a6 (st:=st) (tl:=tl) (O:=O++[b]) (by omega) (by omega)
    rw[zp (by omega),hl,e,z1y (by omega),hNm]at c
    have hfit:z1J 4 (tl++(O++[b]).take 37)=decide (zB ((O++[b]).drop 24)=cN 4 (tl++O.take 24)):=by
     rw[List.take_of_length_le (by omega)]
     have e1:tl++(O++[b])=(tl++O.take 24)++(O++[b]).drop 24:=by
      rw[List.append_assoc,<- z0T (b:=b) h1,List.take_append_drop]
     rw[e1]
     exact zcR (k:=4) (by decide) (fun z hz=>by
      rcases List.mem_append.1 hz with q | q
      ·exact ht z q
      ·exact hO z (List.mem_of_mem_take q)) (fun z hz=>hO' z (List.mem_of_mem_drop hz)) (by rw[List.length_drop,hl,e];rfl) (by rw[List.length_append,List.length_drop,List.length_take];omega)
    unfold okP at c
    rw[hfit,z5Y h1]at c
    generalize zB ((O++[b]).drop 24)=A at *
    generalize cN 4 (tl++O.take 24)=B at *
    have:(!okT st O||A != B) = !(okT st O&&decide (A=B)):=by
     cases okT st O<;>by_cases q:A=B<;>simp[q]
    rw[this]
    exact c
   ·rw[z0d hnx (by omega),<- zg (by omega)]
    refine⟨_,m.f,m.l,m.wrong,m.oP,rfl,?_,fun _ h=>h⟩
    rw[hf,hld,hw,hP]
    have c:=Xc.a5 (st:=st) (tl:=tl) (O:=O++[b]) (by omega) (by omega)
    rw[hl,show 37 - (O.length+1)=37 - O.length - 1 by omega,z1y (by omega),hNm,z5Y h1,z0T h1]at c
    exact c
 | a6 h1 h2 =>
   refine .inr ⟨by omega,?_⟩
   have hNm:=z2O (O:=O) (b:=b) (by omega)
   by_cases e:O.length=44
   ·rw[e]at hnx
    rw[zF hnx,<- zg (by omega)]
    have hv:zB ((O++[b]).drop 37)%256=zB ((O++[b]).drop 37):=z4R hO' (by omega)
    refine⟨.num 32 0 (.af (xlN O)),{ m.f with V:=(zB ((O++[b]).drop 37)%256:Nat) },m.l,m.wrong,m.oP,rfl,?_,fun _ h=>h⟩
    rw[hv,hf,hld,hw,hP]
    have c:=Xc.a7 (st:=st) (tl:=tl) (O:=O++[b]) (by omega) (by omega)
    unfold xf3 at c
    rw[zp (by omega),hl,e,z1y (by omega),hNm,z1P h1,z3h (by omega)]at c
    exact c
   ·rw[z0d hnx (by omega),<- zg (by omega)]
    refine⟨_,m.f,m.l,m.wrong,m.oP,rfl,?_,fun _ h=>h⟩
    rw[hf,hld,hw,hP]
    have c:=Xc.a6 (st:=st) (tl:=tl) (O:=O++[b]) (by omega) (by omega)
    rw[hl,show 45 - (O.length+1)=45 - O.length - 1 by omega,z1y (by omega),hNm,z1P h1]at c
    exact c
 | a7 h1 h2 =>
   refine .inr ⟨by omega,?_⟩
   have hNm:=z2O (O:=O) (b:=b) (by omega)
   by_cases e:O.length=76
   ·rw[e]at hnx
    rw[zF hnx,<- zg (by omega)]
    have hp:=z6k O
    refine⟨.num 8 0 (.data (xlN O) .sumXl),{ m.f with A:=(zB ((O++[b]).drop 45):Nat) },m.l,m.wrong,m.oP,by
     show PM.data { m with f:={ m.f with A:=(zB ((O++[b]).drop 45):Nat) } } (xlN O) .sumXl=_
     unfold PM.data
     rw[if_neg (by omega)]
     rfl,?_,fun _ h=>h⟩
    rw[hf,hld,hw,hP]
    have c:=Xc.a8 (st:=st) (tl:=tl) (O:=O++[b]) 0 (by omega) (by omega) (by omega)
    unfold xf4 at c
    rw[zp (by omega),hl,e,z6s (by omega),hNm,z1P (by omega),z3h (by omega),show(O++[b]).drop 77=[]from List.drop_eq_nil_of_le (by omega)]at c
    exact c
   ·rw[z0d hnx (by omega),<- zg (by omega)]
    refine⟨_,m.f,m.l,m.wrong,m.oP,rfl,?_,fun _ h=>h⟩
    rw[hf,hld,hw,hP]
    have c:=Xc.a7 (st:=st) (tl:=tl) (O:=O++[b]) (by omega) (by omega)
    rw[hl,show 77 - (O.length+1)=77 - O.length - 1 by omega,z6s (by omega),hNm,z1P (by omega)]at c
    exact c
 | a8 j h1 h2 h3 =>
   have hNm:=z2O (O:=O) (b:=b) (by omega)
   refine .inr ⟨by omega,?_⟩
   by_cases e:O.length=77+8*j+7
   ·rw[show 8 - (O.length - (77+8*j))=1 by omega]at hnx
    rw[zF hnx,<- zg (by omega)]
    have hl':m.l++[zB ((O++[b]).drop (77+8*j))%256]=z0r ((O++[b]).drop 77):=by
     rw[z4R hO' (by omega),hld,z3E (a:=77) (n:=j) (by omega)]
    have hrun:z1M (.data (xlN O - j) .sumXl) (zB ((O++[b]).drop (77+8*j))) m=PM.data { m with l:=z0r ((O++[b]).drop 77) } (xlN O - j - 1) .sumXl:=by
     rw[<- hl'];rfl
    rw[hrun]
    by_cases q0:xlN O - j - 1=0
    ·refine⟨.num 32 0 (.check (m.re 5) .trailed),m.f,z0r ((O++[b]).drop 77),m.wrong,m.oP,by unfold PM.data;rw[if_pos q0];rfl,?_,fun _ h=>h⟩
     rw[h5,hf,hw,hP]
     have c:=Xc.a9 (st:=st) (tl:=tl) (O:=O++[b]) (by omega) (by omega)
     rw[hNm]at c
     rw[zp (by omega),hl,z4i (by omega),z1P (by omega),List.take_of_length_le (l:=O++[b]) (by omega),List.take_of_length_le (by rw[List.length_drop];omega),show 32 - (O.length+1 - (77+8*xlN O))=32 by omega]at c
     exact c
    ·refine⟨.num 8 0 (.data (xlN O - j - 1) .sumXl),m.f,z0r ((O++[b]).drop 77),m.wrong,m.oP,by unfold PM.data;rw[if_neg q0];rfl,?_,fun _ h=>h⟩
     rw[hf,hw,hP]
     have c:=Xc.a8 (st:=st) (tl:=tl) (O:=O++[b]) (j+1) (by omega) (by omega) (by omega)
     rw[zp (by omega),hl,z4i (by omega),z1P (by omega),hNm,show 8 - (O.length+1 - (77+8*(j+1)))=8 by omega,show xlN O - (j+1)=xlN O - j - 1 by omega]at c
     exact c
   ·rw[z0d hnx (by omega),<- zg (by omega)]
    refine⟨_,m.f,m.l,m.wrong,m.oP,rfl,?_,fun _ h=>h⟩
    rw[hf,hld,hw,hP]
    have c:=Xc.a8 (st:=st) (tl:=tl) (O:=O++[b]) j (by omega) (by omega) (by omega)
    rw[hl,show 8 - (O.length+1 - (77+8*j))=8 - (O.length - (77+8*j)) - 1 by omega,z4i (by omega),z1P (by omega),hNm,z3G (by omega) (by omega)]at c
    exact c
 | a9 h1 h2 =>
   have hNm:=z2O (O:=O) (b:=b) (by have:=z6k O;omega)
   have hfx:=z4i (tl:=tl) (O:=O) (b:=b) (by omega)
   have hok:=z1P (st:=st) (tl:=tl) (O:=O) (b:=b) (by omega)
   have htk:=z0T (t:=O) (b:=b) h1
   have hld':z0r (((O++[b]).drop 77).take (8*xlN O))=m.l:=by rw[z0U (by omega),hld]
   by_cases e:O.length=77+8*xlN O+31
   ·refine .inl ⟨by omega,?_⟩
    rw[show 32 - (O.length - (77+8*xlN O))=1 by omega]at hnx
    rw[zF hnx,<- zg (by omega)]
    have hfit:z1J 5 (O++[b])=decide (zB ((O++[b]).drop (77+8*xlN O))=cN 5 (O.take (77+8*xlN O))):=by
     have e1:O++[b]=O.take (77+8*xlN O)++(O++[b]).drop (77+8*xlN O):=by
      rw[<- htk,List.take_append_drop]
     exact(congrArg (z1J 5) e1).trans <| zcR (k:=5) (by decide) (fun z hz=>hO z (List.mem_of_mem_take hz)) (fun z hz=>hO' z (List.mem_of_mem_drop hz)) (by rw[List.length_drop,hl,e,show 77+8*xlN O+31+1 - (77+8*xlN O)=32 by omega];rfl) (by rw[List.length_drop,List.length_take];omega)
    show({ m with wrong:=m.wrong||zB ((O++[b]).drop (77+8*xlN O)) != cN 5 (O.take (77+8*xlN O)),raw := .bare,nx := .must [0,1,1,0] .tail }:PM)=_
    rw[hNm,hfx,hok,hld',hfit,<- hf,hw]
    generalize zB ((O++[b]).drop (77+8*xlN O))=A
    generalize cN 5 (O.take (77+8*xlN O))=B
    have:(!okP st tl O||A != B) = !(okP st tl O&&decide (A=B)):=by
     cases okP st tl O<;>by_cases q:A=B<;>simp[q]
    rw[this]
   ·refine .inr ⟨by omega,?_⟩
    rw[z0d hnx (by omega),<- zg (by omega)]
    refine⟨_,m.f,m.l,m.wrong,m.oP,rfl,?_,fun _ h=>h⟩
    rw[<- hld',hf,hw,hP]
    have c:=Xc.a9 (st:=st) (tl:=tl) (O:=O++[b]) (by omega) (by omega)
    rw[hNm]at c
    rw[hl,show 32 - (O.length+1 - (77+8*xlN O))=32 - (O.length - (77+8*xlN O)) - 1 by omega,hfx,hok,htk]at c
    exact c
structure Xd(h y:List Nat)(m:PM):Prop where
 raw:m.raw = .spaced
 every:m.every=8
 since:m.since=z4p 8 false (fgS 8 false 1 y)
 last:y≠[]->m.last=z1i 1 y
 ok:(fgS 8 false 1 y).ok=true
 stuffs:m.stuffs=h.length - 17
 f12:zl (zo h) 12=0
 cx:Xc (h.length - 17) (zo h) (xo y) m.nx m.f m.l m.wrong m.oP
 s4:4∈m.oP->m.re 4=cN 4 (zo h++xo y)
 s5:m.re 5=cN 5 (xo y)
theorem Xc.info{st:Nat}{tl O:List Nat}{nx:Nx}{f:Hd}{l:List Nat}{w:Bool}{oP:List Nat}(h:Xc st tl O nx f l w oP):O.length < 109+8*xlN O/\(oP=[4,5]\/oP=[5])/\nx ≠ .none:=by
 have:=z6k O
 cases h<;>refine⟨by omega,by simp,by simp⟩
theorem zhK(o:Nat):szF 8 false o=if o=0 then 0 else o+(o - 1) / 8:=by unfold szF;split<;>simp
theorem z9s{y:List Nat}(h:(xo y).length < 109+8*xlN (xo y)):z1x y=false:=by
 have hl:=z4J (E:=8) (.inr rfl) false 1 y
 have hd:=z8N (E:=8) (A:=false) (p:=1) y
 unfold z1x
 rw[show fgS 8 false 1 y=fgS 8 false 1 y from rfl]at hl
 have hne:¬y.length=szF 8 false (109+8*xlN (xo y)):=by
  unfold xo at *
  rw[hl,zhK,zhK,if_neg (by omega:¬109+8*xlN (fgS 8 false 1 y).out=0)]
  unfold z28 at hd
  generalize xlN (fgS 8 false 1 y).out=N at *
  generalize (fgS 8 false 1 y).out.length=o at *
  cases hq:(fgS 8 false 1 y).last with
  | true =>
    have h1:=(hd hq).1
    by_cases h0:o=0
    ·rw[if_pos h0]at h1;cases h1
    ·rw[if_neg h0]at h1 ⊢
     have:=of_decide_eq_true h1
     rw[if_pos rfl]
     omega
  | false =>
    rw[if_neg (by simp:¬(false=true))]
    split<;>omega
 rw[decide_eq_false hne,Bool.and_false]
theorem zhk{y:List Nat}(h:(xo y).length=109+8*xlN (xo y))(hl:(fgS 8 false 1 y).last=false):z1x y=true:=by
 have hlen:=z4J (E:=8) (.inr rfl) false 1 y
 rw[hl,if_neg (by simp:¬(false=true)),Nat.add_zero]at hlen
 unfold z1x
 rw[hlen,show(fgS 8 false 1 y).out.length=(xo y).length from rfl,h,decide_eq_true rfl,Bool.and_true,decide_eq_true_eq,zhK,if_neg (by omega)]
 omega
theorem zgg {h y:List Nat} {b:Nat} {m:PM} (F:Xd h y m) (hh:∀z∈h,z<=1) (hy:∀z∈y,z<=1) (hb:b<=1) (hlen:h.length+y.length+1<=65536) :
    ((fgS 8 false 1 (y++[b])).ok=false->m.step b=m.bad 4) /\
    ((fgS 8 false 1 (y++[b])).ok=true->z1x (y++[b])=true->Xe h (y++[b]) [] (m.step b)/\(m.step b).is=m.is/\(m.step b).kn=m.kn/\KdP (m.step b).oP/\(m.step b).oP.length<=2/\(m.step b).oR=m.oR) /\
    ((fgS 8 false 1 (y++[b])).ok=true->z1x (y++[b])=false->Xd h (y++[b]) (m.step b)/\(m.step b).is=m.is/\(m.step b).kn=m.kn/\(m.step b).oR=m.oR):=by
 have hprev:=z66 8 false 1 y
 have hsd:=z7j (E:=8) (.inr rfl) false 1 y
 have hss:=z5K (E:=8) (.inr rfl) false 1 y b
 have hob:=z8F (E:=8) (A:=false) (p:=1) hy
 obtain⟨i1,i2,i3⟩:=F.cx.info
 have hS:=z0y 8 false 1 y b
 have hne:y++[b]≠[]:=by simp
 have htl:=z1u h
 have hol:=zbr 8 false 1 y
 have kP:KdP m.oP/\m.oP.length<=2:=by
  rcases i2 with e | e<;>rw[e]
  ·exact ⟨by intro k hk;have:k=4\/k=5:=by simpa using hk
             omega,by simp⟩
  ·exact ⟨by intro k hk;have:k=5:=by simpa using hk
             omega,by simp⟩
 cases hdue:(fgS 8 false 1 y).due with
 | true =>
   have hsn:m.since=m.every:=by rw[F.since,F.every];exact hsd.2 hdue
   have hy0:y≠[]:=by rintro rfl;cases hdue
   have hlast:m.last=(fgS 8 false 1 y).prev:=by rw[F.last hy0,hprev]
   have hout:xo (y++[b])=xo y:=by unfold xo;rw[hS];unfold z0B;simp only;rw[hdue,if_pos rfl]
   have hok:(fgS 8 false 1 (y++[b])).ok = !(b==(fgS 8 false 1 y).prev):=by rw[hS];unfold z0B;simp only;rw[F.ok,hdue];simp
   have hlt:=z9s (y:=y++[b]) (by rw[hout];exact i1)
   refine⟨fun e=>z5w F.raw hsn ?_,fun _ e=>(by rw[hlt]at e;cases e),fun e _ => ?_⟩
   ·rw[hok]at e
    rw[hlast]
    simpa using e
   ·have hq:b≠m.last:=by
     rw[hok]at e
     rw[hlast]
     simpa using e
    rw[z5r F.raw hsn hq]
    refine⟨⟨F.raw,F.every,?_,fun _=>(z1C _ _ _).symm,e,F.stuffs,F.f12,by rw[hout];exact F.cx,by rw[hout];exact F.s4,by rw[hout];exact F.s5⟩,rfl,rfl,rfl⟩
    show 0=_
    rw[hss,hdue,if_pos rfl]
 | false =>
   have hsn:m.since≠m.every:=by rw[F.since,F.every];intro e;rw[hsd.1 e]at hdue;cases hdue
   have hout:xo (y++[b])=xo y++[b]:=by unfold xo;rw[hS];unfold z0B;simp only;rw[hdue];rfl
   have hls:(fgS 8 false 1 (y++[b])).last=false:=by rw[hS];unfold z0B;simp only;exact hdue
   have hok:(fgS 8 false 1 (y++[b])).ok=true:=by rw[hS];unfold z0B;simp only;rw[F.ok,hdue];simp
   have hnd:m.oP.Nodup:=by rcases i2 with e | e<;>rw[e]<;>decide
   have h5:zL m.re m.oP b 5=cN 5 (xo y++[b]):=by
    rw[z3x hnd (by rcases i2 with e | e<;>rw[e]<;>simp),F.s5,z3C]
   have h4:4∈m.oP->zL m.re m.oP b 4=cN 4 (zo h++(xo y++[b])):=by
    intro hk
    rw[z3x hnd hk,F.s4 hk,<- List.append_assoc,z3C]
   have hx:=zfG (m:={ m.add b with since:=m.since+1,re:=zL m.re m.oP b }) F.cx (z2R hh) hob hb h4 h5 F.stuffs F.f12 (by show(zo h).length+(xo y).length+1<=65536;unfold xo;omega)
   rw[z5I F.raw hsn]
   rw[<- hout]at hx h4 h5
   refine⟨fun e=>(by rw[hok]at e;cases e),fun _ e => ?_,fun _ e => ?_⟩
   ·rcases hx with ⟨x1,x2⟩ | ⟨x1,_⟩
    ·rw[x2]
     refine⟨⟨rfl,zgQ F.f12,rfl,?_,by simp,rfl⟩,rfl,rfl,kP.1,kP.2,rfl⟩
     show(!(okP (h.length - 17) (zo h) (xo (y++[b]))&&z1J 5 (xo (y++[b])))) = !z4S h (y++[b])
     unfold okP okT z4S
     rw[Bool.and_assoc]
    ·rw[z9s x1]at e;cases e
   ·rcases hx with ⟨x1,_⟩ | ⟨x1,nx,f,l,w,oP,x2,x3,x4⟩
    ·rw[zhk x1 hls]at e;cases e
    ·rw[x2]
     refine⟨⟨F.raw,F.every,?_,fun _=>(z1C _ _ _).symm,hok,F.stuffs,F.f12,x3,fun hk=>h4 (x4 4 hk),h5⟩,rfl,rfl,rfl⟩
     show m.since+1=_
     rw[hss,hdue,F.since];rfl
def ziN(kn:Bool):Ph->PM->Prop
 | .dyn x,m=>Dy kn x m
 | .fx h y,m=>Fx h y m
 | .xs h y,m=>Xs h y m
 | .xd h y,m=>Xd h y m
 | .xe h y z,m=>Xe h y z m
 | .tail ok f l t,m=>Tl ok f l t m
 | .fin _,m=>m.raw = .over
def PhB(n:Nat):Ph->Prop
 | .dyn x=>(∀z∈x,z<=1)/\x.length<=n
 | .fx h y=>(∀z∈h,z<=1)/\(∀z∈y,z<=1)/\h.length+y.length<=n
 | .xs h y=>(∀z∈h,z<=1)/\h.length+y.length<=n
 | .xd h y=>(∀z∈h,z<=1)/\(∀z∈y,z<=1)/\h.length+y.length<=n
 | _=>True
structure Sim(kn:Bool)(n:Nat)(p:Ph)(m:PM):Prop where
 hk:m.kn=kn
 is:m.is=zT p
 kk:KK m
 pb:PhB n p
 ph:ziN kn p m
theorem z24{x:List Nat}{b:Nat}(h:∀z∈x,z<=1)(hb:b<=1):∀z∈x++[b],z<=1:=by
 intro z hz
 rcases List.mem_append.1 hz with q | q
 ·exact h z q
 ·have:=List.mem_singleton.1 q;omega
theorem z1q{kn:Bool}{n:Nat}{m:PM}(h:m.kn=kn)(s:Sta):Sim kn n (.fin s) (m.fin s):=⟨h,rfl,⟨(by intro k hk;cases hk),(by intro k hk;cases hk),by simp[PM.fin],by simp[PM.fin]⟩,trivial,rfl⟩
theorem zaT{t:List Nat}{b:Nat}:(t++[b]).length=t.length+1:=by simp
theorem z4U{m:PM}(h:m.raw = .bare)(b:Nat):m.step b=m.next b:=by unfold PM.step;rw[h]
theorem z97{kn:Bool}{n b:Nat}{p:Ph}{m:PM}(S:Sim kn n p m)(hb:b<=1)(hn:n+1<=65536):Sim kn (n+1) (z07 kn p b) (m.step b):=by
 obtain⟨hkn,his,hkk,hpb,hph⟩:=S
 cases p with
 | fin s =>
   have hr:m.raw = .over:=hph
   have:m.step b=m:=by unfold PM.step;rw[hr]
   rw[this]
   exact⟨hkn,his,hkk,trivial,hr⟩
 | dyn x =>
   have D:Dy kn x m:=hph
   obtain⟨hx,hxl⟩:=hpb
   have hxl':(x++[b]).length<=n+1:=by simp;omega
   show Sim kn (n+1) (if full x then(if b=zm x then .fin (z1j 4)else .dyn (x++[b]))else z2F (x++[b]) (zo x++[b]) (zy kn (zo x++[b]))) (m.step b)
   cases hf:full x with
   | true =>
     rw[if_pos rfl]
     by_cases e:b=zm x
     ·rw[if_pos e,zhc D hf e]
      exact z1q hkn _
     ·rw[if_neg e]
      obtain⟨d1,d2,d3,d4,d5⟩:=zeT D hf e
      exact⟨d3.trans hkn,d2.trans his,⟨by rw[d4];exact hkk.r,by rw[d5];exact hkk.p,by rw[d4];exact hkk.lr,by rw[d5];exact hkk.lp⟩,⟨z24 hx hb,hxl'⟩,d1⟩
   | false =>
     rw[if_neg (by simp)]
     obtain⟨m1,e1,mo,r1,r2,r3,r4,r5,r6,r7,r8,r9,r10,r11,r12,r13⟩:=zhn D hkn hx hb (by omega) hf
     have ht:zo (x++[b])=zo x++[b]:=by rw[z0q,hf];rfl
     rw[e1]
     have his1:m1.is=zf:=r13.trans his
     unfold z36 at mo
     cases hj:zy kn (zo x++[b]) with
     | on =>
       rw[hj]at mo
       obtain⟨nx,f,l,oR,oP,q1,q2,q3,q4⟩:=mo
       rw[q1]
       obtain⟨kR,kP,_⟩:=q2.kinds
       refine⟨r12,his1,⟨?_,?_,?_,?_⟩,⟨z24 hx hb,hxl'⟩,⟨r1,r2,r3,r4,by rw[ht];exact r5,r6,by rw[ht];exact q2,fun k hk=>r9 k (by rw[<- r7];exact q3 k hk),fun k hk=>by rw[ht];exact r10 k (by rw[<- r8];exact q4 k hk),r11⟩⟩
       ·intro k hk;have:=q3 k hk;rw[r7]at this;exact hkk.r k this
       ·intro k hk;have:=q4 k hk;rw[r8]at this;exact hkk.p k this
       ·show oR.length<=2;rcases kR with e | e | e | e<;>rw[e]<;>decide
       ·show oP.length<=2;rcases kP with e | e | e<;>rw[e]<;>decide
     | bad =>
       rw[hj]at mo
       rw[mo]
       exact z1q r12 _
     | alien =>
       rw[hj]at mo
       rw[mo]
       exact z1q r12 _
     | cl =>
       rw[hj]at mo
       rw[mo]
       refine⟨r12,his1,⟨(by intro k hk;cases hk),?_,by simp,by simp⟩,trivial,⟨rfl,rfl,rfl,rfl,by simp,.inl ⟨rfl,rfl⟩⟩⟩
       intro k hk;have:k=1:=by simpa using hk
       omega
     | fd =>
       rw[hj]at mo
       obtain⟨q1,q2⟩:=mo
       rw[q1]
       have hk23:zx (fdN (zo x++[b]))=2\/zx (fdN (zo x++[b]))=3:=by unfold zx;split<;>simp
       refine⟨r12,his1,⟨?_,?_,by simp,by simp⟩,⟨z24 hx hb,by simp,by simpa using hxl'⟩,⟨rfl,rfl,rfl,r2,by rw[ht],by rw[ht],by rw[ht],?_,rfl,?_,.inl ⟨by show 0 < 4;omega,?_,r6⟩⟩⟩
       ·intro k hk;have:k=zx (fdN (zo x++[b])):=by simpa using hk
        omega
       ·intro k hk;have:k=zx (fdN (zo x++[b])):=by simpa using hk
        omega
       ·show m1.re _=cN _ ((x++[b])++[])
        rw[ht,List.append_nil]
        exact r9 _ (by rw[<- r7];exact q2)
       ·show 0 < fdM (x++[b])
        unfold fdM
        split<;>omega
       ·show Nx.num 4 0 (.check (zB (zr m1.stuffs)) _)=_
        rw[r5,ht]
        rfl
     | xl =>
       rw[hj]at mo
       obtain⟨q1,q2,q3,q4,q5⟩:=mo
       rw[q1]
       refine⟨r12,his1,⟨by rw[show _=m1.oR from rfl,r7];exact hkk.r,by rw[show _=m1.oP from rfl,r8];exact hkk.p,by rw[show _=m1.oR from rfl,r7];exact hkk.lr,by rw[show _=m1.oP from rfl,r8];exact hkk.lp⟩,⟨z24 hx hb,by simpa using hxl'⟩,⟨rfl,by rw[ht],by rw[ht];exact q2,?_,?_,r6,by simp,rfl,?_,r11⟩⟩
       ·exact q5
       ·show m1.stuffs=_
        rw[r5,q3]
       ·rw[ht]
        exact r10 4 (by rw[<- r8];exact q4)
 | fx h y =>
   have F:Fx h y m:=hph
   obtain⟨hh,hy,hl⟩:=hpb
   obtain⟨s1,s2,s3⟩:=zg9 F hh hy hb (by omega)
   show Sim kn (n+1) (if(fgS 4 true (zm h) (y++[b])).ok then(if(y++[b]).length=fdM h then .tail (z3V h (y++[b])) (fdF (zo h)) (fdD (zo h)) []else .fx h (y++[b]))else .fin (z1j 4)) (m.step b)
   rw[show fgS 4 true (zm h) (y++[b])=fxS h (y++[b])from rfl]
   cases hok:(fxS h (y++[b])).ok with
   | false =>
     rw[if_neg (by simp),s1 hok]
     exact z1q hkn _
   | true =>
     rw[if_pos rfl]
     by_cases e:(y++[b]).length=fdM h
     ·rw[if_pos e]
      obtain⟨q1,q2,q3,q4,q5⟩:=s2 hok e
      exact⟨q3.trans hkn,q2.trans his,⟨by rw[q4];exact hkk.r,by rw[q5];exact hkk.p,by rw[q4];exact hkk.lr,by rw[q5];exact hkk.lp⟩,trivial,q1⟩
     ·rw[if_neg e]
      obtain⟨q1,q2,q3,q4,q5⟩:=s3 hok e
      exact⟨q3.trans hkn,q2.trans his,⟨by rw[q4];exact hkk.r,by rw[q5];exact hkk.p,by rw[q4];exact hkk.lr,by rw[q5];exact hkk.lp⟩,⟨hh,z24 hy hb,by simp;omega⟩,q1⟩
 | xs h y =>
   have F:Xs h y m:=hph
   obtain⟨hh,hl⟩:=hpb
   have hle:=F.len
   rw[z4U F.raw,z1m F.nx]
   show Sim kn (n+1) (if b=zC.getD y.length 0 then(if y.length=3 then .xd h []else .xs h (y++[b]))else .fin (z1j 5)) _
   have hd:(zC.drop y.length).headD 0=zC.getD y.length 0:=by
    rcases(by omega:y.length=0\/y.length=1\/y.length=2\/y.length=3)with e | e | e | e<;>rw[e]<;>rfl
   unfold PM.mustGo
   rw[hd]
   by_cases e:b=zC.getD y.length 0
   ·rw[if_pos e,if_neg (show ¬(b≠zC.getD y.length 0)from fun q=>q e)]
    by_cases e3:y.length=3
    ·rw[if_pos e3,if_pos (by rw[e3];rfl)]
     refine⟨hkn,his,⟨(by intro k hk;cases hk),?_,by simp[z1c,PM.num],by simp[z1c,PM.num]⟩,⟨hh,by simp,by simp;omega⟩,⟨rfl,rfl,rfl,fun h=>absurd rfl h,rfl,F.stuffs,F.f12,?_,fun _ => ?_,F.s5⟩⟩
     ·intro k hk;have:k=4\/k=5:=by simpa [z1c,PM.num]using hk
      omega
     ·have c:=Xc.a1 (st:=h.length - 17) (tl:=zo h) (O:=[]) (by simp)
      show Xc _ _ [] (.num 8 0 .sdt) m.f m.l m.wrong [4,5]
      rw[F.f,F.l,F.wr]
      exact c
     ·show m.re 4=cN 4 (zo h++[])
      rw[List.append_nil];exact F.s4
    ·rw[if_neg e3,if_neg (by rcases(by omega:y.length=0\/y.length=1\/y.length=2)with e | e | e<;>rw[e]<;>decide)]
     refine⟨hkn,his,⟨hkk.r,hkk.p,hkk.lr,hkk.lp⟩,⟨hh,by simp;omega⟩,⟨F.raw,F.f,F.f12,F.l,F.stuffs,F.wr,by simp;omega,?_,F.s4,F.s5⟩⟩
     show Nx.must (zC.drop y.length).tail .dataPart=_
     rw[List.length_append,List.length_singleton,List.tail_drop]
   ·rw[if_neg e,if_pos e]
    exact z1q hkn _
 | xd h y =>
   have F:Xd h y m:=hph
   obtain⟨hh,hy,hl⟩:=hpb
   obtain⟨s1,s2,s3⟩:=zgg F hh hy hb (by omega)
   show Sim kn (n+1) (if(fgS 8 false 1 (y++[b])).ok then(if z1x (y++[b])then .xe h (y++[b]) []else .xd h (y++[b]))else .fin (z1j 4)) (m.step b)
   cases hok:(fgS 8 false 1 (y++[b])).ok with
   | false =>
     rw[if_neg (by simp),s1 hok]
     exact z1q hkn _
   | true =>
     rw[if_pos rfl]
     cases e:z1x (y++[b]) with
     | true =>
       rw[if_pos rfl]
       obtain⟨q1,q2,q3,q4,q5,q6⟩:=s2 hok e
       exact⟨q3.trans hkn,q2.trans his,⟨by rw[q6];exact hkk.r,q4,by rw[q6];exact hkk.lr,q5⟩,trivial,q1⟩
     | false =>
       rw[if_neg (by simp)]
       obtain⟨q1,q2,q3,q4⟩:=s3 hok e
       obtain⟨_,i2,_⟩:=q1.cx.info
       refine⟨q3.trans hkn,q2.trans his,⟨by rw[q4];exact hkk.r,?_,by rw[q4];exact hkk.lr,?_⟩,⟨hh,z24 hy hb,by simp;omega⟩,q1⟩
       ·intro k hk
        rcases i2 with e | e<;>rw[e]at hk
        ·have:k=4\/k=5:=by simpa using hk
         omega
        ·have:k=5:=by simpa using hk
         omega
       ·rcases i2 with e | e<;>rw[e]<;>simp
 | xe h y z =>
   have F:Xe h y z m:=hph
   have hle:=F.len
   rw[z4U F.raw,z1m F.nx]
   show Sim kn (n+1) (if b=z0w.getD z.length 0 then(if z.length=3 then .tail (z4S h y) (xlF (zo h) (xo y)) (xlD (xo y)) []else .xe h y (z++[b]))else .fin (z1j 5)) _
   have hd:(z0w.drop z.length).headD 0=z0w.getD z.length 0:=by
    rcases(by omega:z.length=0\/z.length=1\/z.length=2\/z.length=3)with e | e | e | e<;>rw[e]<;>rfl
   unfold PM.mustGo
   rw[hd]
   by_cases e:b=z0w.getD z.length 0
   ·rw[if_pos e,if_neg (show ¬(b≠z0w.getD z.length 0)from fun q=>q e)]
    by_cases e3:z.length=3
    ·rw[if_pos e3,if_pos (by rw[e3];rfl)]
     exact⟨hkn,his,⟨hkk.r,hkk.p,hkk.lr,hkk.lp⟩,trivial,⟨rfl,F.f,F.l,F.wr,by simp,.inl ⟨rfl,rfl⟩⟩⟩
    ·rw[if_neg e3,if_neg (by rcases(by omega:z.length=0\/z.length=1\/z.length=2)with e | e | e<;>rw[e]<;>decide)]
     refine⟨hkn,his,⟨hkk.r,hkk.p,hkk.lr,hkk.lp⟩,trivial,⟨F.raw,F.f,F.l,F.wr,by simp;omega,?_⟩⟩
     show Nx.must (z0w.drop z.length).tail .tail=_
     rw[List.length_append,List.length_singleton,List.tail_drop]
   ·rw[if_neg e,if_pos e]
    exact z1q hkn _
 | tail ok f l t =>
   have F:Tl ok f l t m:=hph
   have hle:=F.len
   rw[z4U F.raw]
   show Sim kn (n+1) (if t.length=2/\ok=false then .fin (z1j 6)else if t.length≠1/\b=0 then .fin (z1j 5)else if t.length=8 then .fin ⟨2,0,f,l⟩else .tail ok f l (t++[b])) _
   have kk':∀nx is,KK { m with nx:=nx,is:=is }:=fun _ _=>⟨hkk.r,hkk.p,hkk.lr,hkk.lp⟩
   rcases F.nx with ⟨n1,n2⟩ | ⟨n1,n2⟩ | ⟨n1,n2⟩ | ⟨n1,n2,n3⟩
   ·rw[z1m n2,if_neg (by omega)]
    have his':m.is=zf:=by
     rw[his]
     show(if t.length=1/\ok=true then _ else _)=_
     rw[if_neg (by omega)]
     rfl
    by_cases e:b=0
    ·rw[if_pos ⟨by omega,e⟩]
     subst e
     exact z1q hkn _
    ·have e1:b=1:=by omega
     subst e1
     rw[if_neg (by omega),if_neg (by omega)]
     have hrun:m.mustGo [1] .delimited 1={ m with is:=if m.wrong then m.is else { m.is with k:=1 },nx := .slot }:=by simp[PM.mustGo];rfl
     rw[hrun]
     refine⟨hkn,?_,kk' _ _,trivial,⟨F.raw,F.f,F.l,F.wr,by rw[zaT];omega,.inr (.inl ⟨by rw[zaT];omega,rfl⟩)⟩⟩
     show(if m.wrong then m.is else { m.is with k:=1 })=zT (.tail ok f l (t++[1]))
     rw[F.wr,his']
     have e1:(t++[1]).length=1:=by rw[zaT];omega
     cases ok<;>simp[zT,zf,n1]
   ·have hnx:m.next b={ m with is:={ m.is with k:=0 },nx := .behind }:=by unfold PM.next;rw[n2]
    rw[hnx,if_neg (by omega),if_neg (by omega),if_neg (by omega)]
    refine⟨hkn,?_,kk' _ _,trivial,⟨F.raw,F.f,F.l,F.wr,by rw[zaT];omega,.inr (.inr (.inl ⟨by rw[zaT];omega,rfl⟩))⟩⟩
    show({ m.is with k:=0 }:Sta)=(if(t++[b]).length=1/\ok=true then _ else _)
    rw[if_neg (by rw[zaT];omega),his]
    show({ (if t.length=1/\ok=true then(⟨1,0,noF,[]⟩:Sta) else⟨0,0,noF,[]⟩)with k:=0 }:Sta)=_
    split<;>rfl
   ·have his':m.is=zf:=by
     rw[his]
     show(if t.length=1/\ok=true then _ else _)=_
     rw[if_neg (by omega)]
     rfl
    have hnx:m.next b=if m.wrong then m.bad 6 else m.mustGo [1,1,1,1,1,1,1] .done b:=by unfold PM.next;rw[n2]
    rw[hnx,F.wr]
    cases ok with
    | false =>
      rw[if_pos ⟨n1,rfl⟩]
      exact z1q hkn _
    | true =>
      rw[if_neg (by simp)]
      show Sim kn (n+1) _ (m.mustGo [1,1,1,1,1,1,1] .done b)
      by_cases e:b=0
      ·rw[if_pos ⟨by omega,e⟩]
       subst e
       exact z1q hkn _
      ·have e1:b=1:=by omega
       subst e1
       rw[if_neg (by omega),if_neg (by omega)]
       refine⟨hkn,?_,kk' _ m.is,trivial,⟨F.raw,F.f,F.l,F.wr,by rw[zaT];omega,.inr (.inr (.inr ⟨by rw[zaT];omega,?_,rfl⟩))⟩⟩
       ·show m.is=(if(t++[1]).length=1/\true=true then _ else _)
        rw[if_neg (by rw[zaT];omega),his']
        rfl
       ·show Nx.must [1,1,1,1,1,1] .done=_
        rw[List.length_append,List.length_singleton,n1]
        rfl
   ·subst n3
    have his':m.is=zf:=by
     rw[his]
     show(if t.length=1/\true=true then _ else _)=_
     rw[if_neg (by omega)]
     rfl
    rw[z1m n2,if_neg (by simp)]
    have hd:(ones (9 - t.length)).headD 0=1:=by
     rw[show 9 - t.length=(8 - t.length)+1 by omega]
     rfl
    have htl:(ones (9 - t.length)).tail=ones (8 - t.length):=by
     rw[show 9 - t.length=(8 - t.length)+1 by omega]
     rfl
    unfold PM.mustGo
    rw[hd,htl]
    by_cases e:b=0
    ·rw[if_pos ⟨by omega,e⟩]
     subst e
     exact z1q hkn _
    ·have e1:b=1:=by omega
     subst e1
     rw[if_neg (by omega),if_neg (show ¬((1:Nat)≠1) by simp)]
     by_cases e8:t.length=8
     ·rw[if_pos e8,if_pos (by rw[e8];rfl)]
      show Sim kn (n+1) _ (m.fin ⟨2,0,m.f,m.l⟩)
      rw[F.f,F.l]
      exact z1q hkn _
     ·rw[if_neg e8,if_neg (by
       rw[show 8 - t.length=(7 - t.length)+1 by omega]
       simp[ones,List.replicate_succ])]
      refine⟨hkn,?_,kk' _ m.is,trivial,⟨F.raw,F.f,F.l,F.wr,by rw[zaT];omega,.inr (.inr (.inr ⟨by rw[zaT];omega,?_,rfl⟩))⟩⟩
      ·show m.is=(if(t++[1]).length=1/\true=true then _ else _)
       rw[if_neg (by rw[zaT];omega),his']
       rfl
      ·show Nx.must (ones (8 - t.length)) .done=_
       rw[List.length_append,List.length_singleton,show 9 - (t.length+1)=8 - t.length by omega]
def ReP(re:Nat->Nat):Prop:=∀k,1<=k->k<=5->re k < 2^szK (k:Nat)
theorem zgX{k:Nat}(h:1<=k/\k<=5):szK (k:Nat)≠0:=by
 rcases(by omega:k=1\/k=2\/k=3\/k=4\/k=5)with rfl | rfl | rfl | rfl | rfl<;>decide
theorem ReP.feed{re:Nat->Nat}(h:ReP re)(ks:List Nat)(b:Nat):ReP (zL re ks b):=by
 induction ks generalizing re with
 | nil=>exact h
 | cons j ks ih =>
   show ReP (zL (zaR re j (z2k (szK (j:Nat)) (z04 (j:Nat)) (re j) b)) ks b)
   refine ih ?_
   intro k h1 h2
   unfold zaR
   by_cases e:k=j
   ·subst e
    rw[if_pos rfl]
    obtain⟨_,_,n3,_⟩:=z1t (k:Nat) (zgX ⟨h1,h2⟩)
    exact z5V n3
   ·rw[if_neg e]
    exact h k h1 h2
theorem ReP.zero:ReP (fun _=>0):=fun _ _ _=>Nat.two_pow_pos _
structure Le4(s:Nat)(m r:PM):Prop where
 a:r.alike<=m.alike
 t:r.stuffs<=m.stuffs
 i:r.since<=m.since\/r.since<=4
 l:r.l.length<=m.l.length+s
 e:r.re=m.re\/r.re=fun _=>0
 n:r.seen=m.seen
 s:r.is.l.length<=m.is.l.length\/r.is.l.length<=m.l.length+s
theorem z2n(m:PM)(s:Sta)(k:Nat)(hs:s.l.length<=m.l.length):Le4 k m (m.fin s):=⟨Nat.zero_le _,Nat.zero_le _,.inr (Nat.zero_le _),Nat.zero_le _,.inr rfl,rfl,.inr (Nat.le_trans hs (Nat.le_add_right _ _))⟩
theorem z3i(k:K0)(m:PM)(s:Nat):Le4 s m (z1c k m):=by
 cases k
 case done=>exact z2n _ _ _ (Nat.le_refl _)
 case delimited=>exact⟨Nat.le_refl _,Nat.le_refl _,.inl (Nat.le_refl _),Nat.le_add_right _ _,.inl rfl,rfl,.inl (by show(if m.wrong then m.is else { m.is with k:=1 }).l.length<=_;split<;>exact Nat.le_refl _)⟩
 all_goals exact⟨Nat.le_refl _,Nat.le_refl _,(by first | exact .inl (Nat.le_refl _) | exact .inr (Nat.le_refl 4) | exact .inr (Nat.zero_le _)),Nat.le_add_right _ _,.inl rfl,rfl,.inl (Nat.le_refl _)⟩
theorem z0v{m r:PM}{s:Nat}(h1:r.alike=m.alike)(h2:r.stuffs=m.stuffs)(h3:r.since=m.since)(h4:r.l.length<=m.l.length+s)(h5:r.re=m.re)(h6:r.seen=m.seen)(h7:r.is.l.length<=m.is.l.length):Le4 s m r:=⟨by omega,by omega,.inl (by omega),h4,.inl h5,h6,.inl h7⟩
theorem Le4.from{m m1 r:PM}{s:Nat}(h:Le4 0 m1 r)(h1:m1.alike=m.alike)(h2:m1.stuffs=m.stuffs)(h3:m1.since=m.since)(h4:m1.l.length<=m.l.length+s)(h5:m1.re=m.re)(h6:m1.seen=m.seen)(h7:m1.is=m.is):Le4 s m r :=
 ⟨by rw[<- h1];exact h.a,by rw[<- h2];exact h.t,by rw[<- h3];exact h.i,by have:=h.l;omega,by rw[<- h5];exact h.e,by rw[<- h6];exact h.n,by have h8:=h.s;rw[h7]at h8;rcases h8 with q | q;exact .inl q;exact .inr (by omega)⟩
theorem z46(m:PM)(n:Nat)(k:K0):Le4 0 m (m.data n k):=by
 unfold PM.data
 split
 ·exact z3i _ _ _
 ·exact z0v rfl rfl rfl (Nat.le_refl _) rfl rfl (Nat.le_refl _)
theorem zel(k:KS)(n:Nat)(m:PM):Le4 0 m (za6 k n m):=by
 cases k
 ·exact z46 _ _ _
 ·exact(z46 { m with oR:=[zx n] } n (.fixd (zx n))).from rfl rfl rfl (Nat.le_refl _) rfl rfl rfl
 ·exact z0v rfl rfl rfl (Nat.le_refl _) rfl rfl (Nat.le_refl _)
theorem zf6(k:KN)(v:Nat)(m:PM):Le4 1 m (z1M k v m):=by
 cases k
 case identified=>exact z0v rfl rfl rfl (Nat.le_add_right _ _) rfl rfl (Nat.le_refl _)
 case longOrNot =>
  show Le4 1 m (if v=3 then _ else if v=1 then _ else _)
  split
  ·exact z0v rfl rfl rfl (Nat.le_add_right _ _) rfl rfl (Nat.le_refl _)
  ·split
   ·exact z2n _ _ _ (Nat.zero_le _)
   ·exact z0v rfl rfl rfl (Nat.le_add_right _ _) rfl rfl (Nat.le_refl _)
 case prolonged=>exact z0v rfl rfl rfl (Nat.le_add_right _ _) rfl rfl (Nat.le_refl _)
 case classicOrNot =>
  show Le4 1 m (if v=0 then _ else if m.f.R=true then _ else _)
  split
  ·exact z3i _ _ _
  ·split
   ·exact z2n _ _ _ (Nat.zero_le _)
   ·exact z0v rfl rfl rfl (Nat.le_add_right _ _) rfl rfl (Nat.le_refl _)
 case fdOrXL =>
  show Le4 1 m (if v=0 then _ else if m.kn=true then _ else _)
  split
  ·exact z0v rfl rfl rfl (Nat.le_add_right _ _) rfl rfl (Nat.le_refl _)
  ·split
   ·exact z0v rfl rfl rfl (Nat.le_add_right _ _) rfl rfl (Nat.le_refl _)
   ·exact z2n _ _ _ (Nat.zero_le _)
 case flag f k=>exact(z3i k { m with f:=zhE f (v==1) m.f } 0).from rfl rfl rfl (Nat.le_add_right _ _) rfl rfl rfl
 case size k =>
  show Le4 1 m (if _ then _ else _)
  split
  ·exact z2n _ _ _ (Nat.zero_le _)
  ·exact(zel k _ m).from rfl rfl rfl (Nat.le_add_right _ _) rfl rfl rfl
 case data n k=>exact(z46 { m with l:=m.l++[v%256] } (n - 1) k).from rfl rfl rfl (by simp) rfl rfl rfl
 case check n k=>exact(z3i k { m with wrong:=m.wrong||v != n } 0).from rfl rfl rfl (Nat.le_add_right _ _) rfl rfl rfl
 case sdt=>exact z0v rfl rfl rfl (Nat.le_add_right _ _) rfl rfl (Nat.le_refl _)
 case vcid n=>exact z0v rfl rfl rfl (Nat.le_add_right _ _) rfl rfl (Nat.le_refl _)
 case af n=>exact(z46 { m with f:={ m.f with A:=(v:Nat) } } n .sumXl).from rfl rfl rfl (Nat.le_add_right _ _) rfl rfl rfl
theorem z9G(m:PM)(w:List Nat)(k:K0)(b:Nat):Le4 1 m (m.mustGo w k b):=by
 unfold PM.mustGo
 split
 ·exact z2n _ _ _ (Nat.zero_le _)
 ·split
  ·exact z3i _ _ _
  ·exact z0v rfl rfl rfl (Nat.le_add_right _ _) rfl rfl (Nat.le_refl _)
theorem z6q(m:PM)(b:Nat):Le4 1 m (m.next b):=by
 unfold PM.next
 split
 ·exact z0v rfl rfl rfl (Nat.le_add_right _ _) rfl rfl (Nat.le_refl _)
 ·split
  ·exact zf6 _ _ _
  ·exact z0v rfl rfl rfl (Nat.le_add_right _ _) rfl rfl (Nat.le_refl _)
 ·exact z9G _ _ _ _
 ·exact z0v rfl rfl rfl (Nat.le_add_right _ _) rfl rfl (Nat.le_refl _)
 ·split
  ·exact z2n _ _ _ (Nat.zero_le _)
  ·exact z9G _ _ _ _
structure Lo(n:Nat)(m:PM):Prop where
 a:m.alike<=n
 t:m.stuffs<=n
 i:m.since<=n+4
 l:m.l.length<=n
 e:ReP m.re
 s:m.is.l.length<=n
theorem zcb{n:Nat}{m1 r:PM}(h:Le4 1 m1 r)(h1:m1.alike<=n+1)(h2:m1.stuffs<=n+1)(h3:m1.since<=n+5)(h4:m1.l.length<=n)(h5:ReP m1.re)(h6:m1.is.l.length<=n):Lo (n+1) r :=
 ⟨Nat.le_trans h.a h1,Nat.le_trans h.t h2,by rcases h.i with q | q<;>omega,by have:=h.l;omega,by rcases h.e with q | q<;>rw[q];exact h5;exact ReP.zero,by rcases h.s with q | q<;>omega⟩
theorem zbc{n b:Nat}{m:PM}(h:Lo n m):Lo (n+1) (m.step b)/\(m.step b).seen=m.seen:=by
 have ha:(m.add b).alike<=n+1:=by
  show(if b=m.last then m.alike+1 else 1)<=n+1
  have:=h.a
  split<;>omega
 have h1:=h.a
 have h2:=h.t
 have h3:=h.i
 have h4:=h.l
 unfold PM.step
 split
 ·split
  ·split
   ·exact⟨zcb (z2n m _ 1 (Nat.zero_le _)) (by omega) (by omega) (by omega) h.l h.e h.s,rfl⟩
   ·exact⟨⟨ha,by show m.stuffs+1<=n+1;omega,by show m.since<=_;omega,by show m.l.length<=_;omega,h.e.feed _ _,Nat.le_succ_of_le h.s⟩,rfl⟩
  ·have q:=z6q { m.add b with re:=zL (zL m.re m.oR b) m.oP b } b
   exact⟨zcb q ha (by show m.stuffs<=_;omega) (by show m.since<=_;omega) h.l ((h.e.feed _ _).feed _ _) h.s,q.n⟩
 ·split
  ·split
   ·exact⟨zcb (z2n m _ 1 (Nat.zero_le _)) (by omega) (by omega) (by omega) h.l h.e h.s,rfl⟩
   ·exact⟨⟨ha,by show m.stuffs<=_;omega,Nat.zero_le _,by show m.l.length<=_;omega,h.e,Nat.le_succ_of_le h.s⟩,rfl⟩
  ·have q:=z6q { m.add b with since:=m.since+1,re:=zL m.re m.oP b } b
   exact⟨zcb q ha (by show m.stuffs<=_;omega) (by show m.since+1<=_;omega) h.l (h.e.feed _ _) h.s,q.n⟩
 ·have q:=z6q m b
  exact⟨zcb q (by omega) (by omega) (by omega) h.l h.e h.s,q.n⟩
 ·exact⟨⟨by omega,by omega,by omega,by omega,h.e,Nat.le_succ_of_le h.s⟩,rfl⟩
theorem Sim.seen{kn:Bool}{n:Nat}{p:Ph}{m:PM}(S:Sim kn n p m)(s:Nat):Sim kn n p { m with seen:=s }:=by
 obtain⟨h1,h2,h3,h4,h5⟩:=S
 refine⟨h1,h2,⟨h3.r,h3.p,h3.lr,h3.lp⟩,h4,?_⟩
 cases p with
 | dyn x=>have h:Dy kn x m:=h5;exact⟨h.raw,h.last,h.alike,h.run5,h.stuffs,h.wr,h.cx,h.sR,h.sP,h.s5⟩
 | fx a y=>have h:Fx a y m:=h5;exact⟨h.raw,h.every,h.since,h.last,h.f,h.l,h.oP,h.re,h.ok,h.len,h.nxt⟩
 | xs a y=>have h:Xs a y m:=h5;exact⟨h.raw,h.f,h.f12,h.l,h.stuffs,h.wr,h.len,h.nx,h.s4,h.s5⟩
 | xd a y=>have h:Xd a y m:=h5;exact⟨h.raw,h.every,h.since,h.last,h.ok,h.stuffs,h.f12,h.cx,h.s4,h.s5⟩
 | xe a y z=>have h:Xe a y z m:=h5;exact⟨h.raw,h.f,h.l,h.wr,h.len,h.nx⟩
 | tail ok f l t=>have h:Tl ok f l t m:=h5;exact⟨h.raw,h.f,h.l,h.wr,h.len,h.nx⟩
 | fin s=>exact h5
theorem Sim.raws{kn:Bool}{n:Nat}{p:Ph}{m:PM}(S:Sim kn n p m):m.isNil=false/\(m.raw = .over\/m.nx ≠ .none):=by
 obtain⟨h1,h2,h3,h4,h5⟩:=S
 unfold PM.isNil
 cases p with
 | dyn x=>have h:Dy kn x m:=h5;rw[h.raw];exact⟨rfl,.inr h.cx.kinds.2.2⟩
 | fx a y=>have h:Fx a y m:=h5;rw[h.raw];exact⟨rfl,.inr (by rcases h.nxt with q | q<;>rw[q.2.1]<;>simp)⟩
 | xs a y=>have h:Xs a y m:=h5;rw[h.raw];exact⟨rfl,.inr (by rw[h.nx];simp)⟩
 | xd a y=>have h:Xd a y m:=h5;rw[h.raw];exact⟨rfl,.inr h.cx.info.2.2⟩
 | xe a y z=>have h:Xe a y z m:=h5;rw[h.raw];exact⟨rfl,.inr (by rw[h.nx];simp)⟩
 | tail ok f l t=>have h:Tl ok f l t m:=h5;rw[h.raw];exact⟨rfl,.inr (by rcases h.nx with q | q | q | q;rw[q.2];simp;rw[q.2];simp;rw[q.2];simp;rw[q.2.1];simp)⟩
 | fin s=>rw[show m.raw = .over from h5];exact⟨rfl,.inl rfl⟩
theorem zdt{m:PM}(h:m.isNil=false)(b:Nat):m.take b=PM.step { m with seen:=m.seen+1 } b:=by
 unfold PM.take
 rw[h]
 rfl
structure Gd(kn:Bool)(x:List Nat)(m:PM):Prop where
 is:m.is=zT (scS kn x)
 seen:m.seen=x.length
 lo:Lo x.length m
 kk:KK m
 nn:(x=[]/\m=z7Z kn)\/(m.isNil=false/\(m.raw = .over\/m.nx ≠ .none))
theorem zhq(kn:Bool)(s:Nat):Sim kn 0 (.dyn []) { (z7Z kn).begin with seen:=s }:=by
 refine⟨rfl,rfl,⟨?_,?_,by simp[PM.begin,PM.must,z7Z],by simp[PM.begin,PM.must,z7Z]⟩,⟨by simp,Nat.le_refl _⟩,⟨rfl,rfl,rfl,by decide,rfl,rfl,Cx.s0 rfl,?_,?_,rfl⟩⟩
 ·intro k hk;have:k=2\/k=3:=by simpa [PM.begin,PM.must,z7Z]using hk
  omega
 ·intro k hk;have:k=1\/k=4:=by simpa [PM.begin,PM.must,z7Z]using hk
  omega
 ·intro k hk;have:k=2\/k=3:=by simpa [PM.begin,PM.must,z7Z]using hk
  rcases this with rfl | rfl<;>rfl
 ·intro k hk;have:k=1\/k=4:=by simpa [PM.begin,PM.must,z7Z]using hk
  rcases this with rfl | rfl<;>rfl
theorem zh1(kn:Bool){x:List Nat}:(∀z∈x,z<=1)->x.length<=65536->((x=[]/\goM kn x=z7Z kn)\/Sim kn x.length (scS kn x) (goM kn x))/\(goM kn x).seen=x.length/\Lo x.length (goM kn x):=by
 refine zz (P:=fun x=>(∀z∈x,z<=1)->x.length<=65536->((x=[]/\goM kn x=z7Z kn)\/Sim kn x.length (scS kn x) (goM kn x))/\(goM kn x).seen=x.length/\Lo x.length (goM kn x)) (fun _ _=>⟨.inl ⟨rfl,rfl⟩,rfl,⟨Nat.le_refl _,Nat.le_refl _,Nat.zero_le _,Nat.le_refl _,ReP.zero,Nat.le_refl _⟩⟩) (fun x b ih hb hl => ?_) x
 rw[List.length_append,List.length_singleton]at hl ⊢
 obtain⟨i1,i2,i3⟩:=ih (fun z hz=>hb z (List.mem_append_left _ hz)) (by omega)
 have hb1:=hb b (List.mem_append_right _ (List.mem_singleton.2 rfl))
 rw[z9N]
 have hsc:scS kn (x++[b])=z07 kn (scS kn x) b:=z0j kn (.dyn []) x b
 rw[hsc]
 rcases i1 with ⟨rfl,e⟩ | S
 ·rw[e]
  have ht:(z7Z kn).take b=PM.step { (z7Z kn).begin with seen:=1 } b:=rfl
  rw[ht]
  have h0:Lo 0 { (z7Z kn).begin with seen:=1 }:=⟨Nat.le_refl _,Nat.le_refl _,Nat.zero_le _,Nat.le_refl _,fun k h1 h2=>by
   show z30 _ k < _
   unfold z30
   rw[if_pos ⟨h1,h2⟩]
   exact(z1t (k:Nat) (zgX ⟨h1,h2⟩)).start,Nat.le_refl _⟩
  obtain⟨q1,q2⟩:=zbc (b:=b) h0
  exact⟨.inr (z97 (zhq kn 1) hb1 (by omega)),q2,q1⟩
 ·rw[zdt S.raws.1]
  have h0:Lo x.length { goM kn x with seen:=(goM kn x).seen+1 }:=⟨i3.a,i3.t,i3.i,i3.l,i3.e,i3.s⟩
  obtain⟨q1,q2⟩:=zbc (b:=b) h0
  exact⟨.inr (z97 (S.seen _) hb1 (by omega)),q2.trans (by show(goM kn x).seen+1=_;rw[i2]),q1⟩
theorem zfF(kn:Bool){x:List Nat}(hb:∀z∈x,z<=1)(hl:x.length<=65536):Gd kn x (goM kn x):=by
 obtain⟨i1,i2,i3⟩:=zh1 kn hb hl
 rcases i1 with ⟨rfl,e⟩ | S
 ·exact⟨rfl,i2,i3,⟨(by intro k hk;cases hk),(by intro k hk;cases hk),by simp[goM,z7Z],by simp[goM,z7Z]⟩,.inl ⟨rfl,e⟩⟩
 ·exact⟨S.is,i2,i3,S.kk,.inr S.raws⟩
end Go.Proofs.YtkjjfnmeogpdbaaGreatDoor
