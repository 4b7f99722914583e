/- The program's machine of plain data against the document's automaton, and more. Conditions: as each says. -/
import Derived.Test.YtplbmlpdefpplaaGreatDoorScM
namespace Go.Proofs.YtplbmlpdefpplaaGreatDoor
set_option linter.unusedVariables false
set_option linter.unusedSimpArgs false
open Go.RowKit
variable {O h ks oR t' tl x y:List Nat} {E b j k st v:Nat} {g:Nat->Nat} {m:PM}
theorem z5j{t:List Nat}(h:j<=t.length):(t++[b]).drop j=t.drop j++[b]:=by rw[List.drop_append_of_le_length h]
theorem z0U{t:List Nat}{i n:Nat}(h:i+n<=t.length):((t++[b]).drop i).take n=(t.drop i).take n:=by
 rw[List.drop_append_of_le_length (by omega),List.take_append_of_le_length (by rw[List.length_drop];omega)]
theorem z0Q{t:List Nat}{n:Nat}(h:n<=t.length):(t++[b]).take n=t.take n:=List.take_append_of_le_length h
theorem zj{t:List Nat}{i:Nat}(h:i < t.length):zk (t++[b]) i=zk t i:=by rw[zk,List.getD,List.getElem?_append_left h];rfl
theorem z18{t:List Nat}{i:Nat}(h:i=t.length):zk (t++[b]) i=b:=by subst h;simp[zk]
theorem z5N{t:List Nat}{i:Nat}(h:i+4<=t.length):z1x (zk (t++[b])) i=z1x (zk t) i:=by
 rw[z1x,z1x,zj (by omega),zj (by omega),zj (by omega),zj (by omega)]
theorem z3s{t:List Nat}(h:∀x∈t,x<=1)(i:Nat):zk t i<=1:=by
 unfold zk
 rw[List.getD]
 cases hq:t[i]? with
 | none=>simp
 | some x=>simpa using h x (List.mem_of_getElem? hq)
theorem zg{t:List Nat}(h:j<=t.length):zF ((t++[b]).drop j)=zF (t.drop j)*2+b:=by rw[z5j h,z0S]
theorem zp{t:List Nat}(h:t.length<=j):zF (t.drop j)=0:=by rw[List.drop_eq_nil_of_le h];rfl
theorem z42{t:List Nat}{n:Nat}(h:t.length=j+n):zF ((t.drop j).take n)=zF (t.drop j):=by
 rw[List.take_of_length_le (by rw[List.length_drop];omega)]
theorem zg2{t:List Nat}(h:t.length=j+2):zF (t.drop j)=zk t j*2+zk t (j+1):=by
 have:t.drop j=[zk t j,zk t (j+1)]:=by
  rw[List.drop_eq_getElem_cons (by omega),List.drop_eq_getElem_cons (by omega),List.drop_eq_nil_of_le (by omega)]
  simp[zk,List.getD,(by omega:j < t.length),(by omega:j+1 < t.length)]
 rw[this]
 simp[zF]
theorem z7V{t:List Nat}(h:t.length=j+4):zF (t.drop j)=z1x (zk t) j:=by
 have:t.drop j=[zk t j,zk t (j+1),zk t (j+2),zk t (j+3)]:=by
  rw[List.drop_eq_getElem_cons (by omega),List.drop_eq_getElem_cons (by omega),List.drop_eq_getElem_cons (by omega),List.drop_eq_getElem_cons (by omega),List.drop_eq_nil_of_le (by omega)]
  simp[zk,List.getD,(by omega:j < t.length),(by omega:j+1 < t.length),(by omega:j+1+1 < t.length),(by omega:j+1+1+1 < t.length),(by omega:j+2 < t.length),(by omega:j+3 < t.length)]
 rw[this]
 simp[zF,z1x]
 omega
theorem z4b{t:List Nat}{a n:Nat}(h:t.length+1=a+8*(n+1)):z0p ((t++[b]).drop a)=z0p (t.drop a)++[zF ((t++[b]).drop (a+8*n))]:=by
 have hl:((t++[b]).drop a).length=8*(n+1):=by rw[List.length_drop,List.length_append,List.length_singleton];omega
 have hl':(t.drop a).length=8*n+7:=by rw[List.length_drop];omega
 unfold z0p
 rw[hl,hl',show 8*(n+1) / 8=n+1 by omega,show(8*n+7) / 8=n by omega,List.range_succ,List.map_append,List.map_singleton]
 congr 1
 ·apply List.map_congr_left
  intro i hi
  have hi':=List.mem_range.1 hi
  congr 1
  rw[List.drop_drop,List.drop_drop,z0U (by omega)]
 ·rw[List.drop_drop,List.take_of_length_le (by rw[List.length_drop,List.length_append,List.length_singleton];omega)]
theorem z4e{t:List Nat}{a:Nat}(h:a<=t.length)(h8:(t.length+1 - a)%8≠0):z0p ((t++[b]).drop a)=z0p (t.drop a):=by
 have hl:((t++[b]).drop a).length=t.length+1 - a:=by rw[List.length_drop,List.length_append,List.length_singleton]
 have hl':(t.drop a).length=t.length - a:=by rw[List.length_drop]
 unfold z0p
 rw[hl,hl',show(t.length+1 - a) / 8=(t.length - a) / 8 by omega]
 apply List.map_congr_left
 intro i hi
 have hi':=List.mem_range.1 hi
 congr 1
 rw[List.drop_drop,List.drop_drop,z0U (by omega)]
def cN(k:Nat)(l:List Nat):Nat:=z45 (szK (k:Nat)) (z08 (k:Nat)) (zD (k:Nat)) l
theorem z4h(k:Nat)(l:List Nat)(b:Nat):cN k (l++[b])=z2x (szK (k:Nat)) (z08 (k:Nat)) (cN k l) b:=z5Q _ _ _ _ _
def idN(t:List Nat):Nat:=zF ((t.drop 1).take 11)
def hdS(t:List Nat):Hd:={ noF with I:=(idN t:Nat) }
def hdR(t:List Nat):Hd:={ hdS t with R:=zk t 12==1 }
def hdX(t:List Nat):Hd:={ hdS t with X:=true }
def hdL(t:List Nat):Hd:={ hdX t with I:=((idN t*262144+zF ((t.drop 14).take 18):Nat):Int) }
def zgI(t:List Nat):Hd:={ hdL t with R:=zk t 32==1 }
theorem z6R{t:List Nat}(h:12<=t.length):idN (t++[b])=idN t:=by unfold idN;rw[z0U (by omega)]
theorem z4Y{t:List Nat}(h:12<=t.length):hdS (t++[b])=hdS t:=by unfold hdS;rw[z6R h]
theorem z7e{t:List Nat}(h:12<=t.length):hdX (t++[b])=hdX t:=by unfold hdX;rw[z4Y h]
theorem z2m{t:List Nat}(h:13<=t.length):hdR (t++[b])=hdR t:=by unfold hdR;rw[z4Y (by omega),zj (by omega)]
theorem zau{t:List Nat}(h:32<=t.length):hdL (t++[b])=hdL t:=by unfold hdL;rw[z7e (by omega),z6R (by omega),z0U (by omega)]
theorem z5v{t:List Nat}(h:33<=t.length):zgI (t++[b])=zgI t:=by unfold zgI;rw[zau (by omega),zj (by omega)]
theorem z7c{t:List Nat}(h:zk t 13=1):clF t={ zgI t with K:=1 }:=by unfold clF;rw[if_pos h];rfl
theorem z6S{t:List Nat}(h:zk t 13≠1):clF t={ hdR t with K:=1 }:=by unfold clF;rw[if_neg h];rfl
theorem zkt{t:List Nat}(h:∀x∈t,x<=1):idN t < 2048:=by
 have:=z3u ((t.drop 1).take 11) (fun x hx=>h x (List.mem_of_mem_drop (List.mem_of_mem_take hx)))
 refine Nat.lt_of_lt_of_le this (Nat.le_trans (Nat.pow_le_pow_right (by omega) (?_:_<=11)) (by decide))
 rw[List.length_take]
 omega
def z9k(t:List Nat)(a:Nat):Prop:=(a=35/\zk t 13=1)\/(a=15/\zk t 13≠1/\zk t 14=0)
inductive Cx (kn:Bool) (t:List Nat):Nx->Hd->List Nat->List Nat->List Nat->Prop where
 | s0:t=[]->Cx kn t (.must [0] .top) noF [] [2,3] [1,4]
 | s1:1<=t.length->t.length < 12->Cx kn t (.num (12 - t.length) (zF (t.drop 1)) .identified) noF [] [2,3] [1,4]
 | s2:12<=t.length->t.length < 14->Cx kn t (.num (14 - t.length) (zF (t.drop 12)) .longOrNot) (hdS t) [] [2,3] [1,4]
 | x1:14<=t.length->t.length < 32->zk t 13=1->Cx kn t (.num (32 - t.length) (zF (t.drop 14)) .prolonged) (hdX t) [] [2,3] [1,4]
 | x2:t.length=32->zk t 13=1->Cx kn t (.num 1 0 (.flag .rtr .heads)) (hdL t) [] [2,3] [1,4]
 | x3:t.length=33->zk t 13=1->Cx kn t (.must [0,0] .classic) (zgI t) [] [2,3] [1,4]
 | x4:t.length=34->zk t 13=1->Cx kn t (.must [0] .classic) (zgI t) [] [2,3] [1,4]
 | c1 (a:Nat):z9k t a->a<=t.length->t.length < a+4->Cx kn t (.num (a+4 - t.length) (zF (t.drop a)) (.size .cl)) (clF t) [] [] [1]
 | c2 (a j c:Nat):z9k t a->a+4+8*j<=t.length->t.length < a+4+8*j+8->z1x (zk t) a=c->j < c->Cx kn t (.num (8 - (t.length - (a+4+8*j))) (zF (t.drop (a+4+8*j))) (.data (c - j) .sumCl)) (clF t) (z0p (t.drop (a+4))) [] [1]
 | c3 (a c:Nat):z9k t a->a+4+8*c<=t.length->t.length < a+4+8*c+15->z1x (zk t) a=c->Cx kn t (.num (15 - (t.length - (a+4+8*c))) (zF (t.drop (a+4+8*c))) (.check (cN 1 (t.take (a+4+8*c))) .tail)) (clF t) (z0p ((t.drop (a+4)).take (8*c))) [] [1]
 | r1:t.length=14->zk t 13≠1->Cx kn t (.num 1 0 .classicOrNot) (hdR t) [] [2,3] [1,4]
 | r2:t.length=15->zk t 13≠1->zk t 14=1->zk t 12=0->Cx kn t (.num 1 0 .fdOrXL) (hdR t) [] [2,3] [1,4]
 | l1:t.length=16->zk t 13≠1->zk t 14=1->zk t 15=1->zk t 12=0->kn=true->Cx kn t (.must [0] .headed) (hdR t) [] [2,3] [1,4]
 | f1:t.length=16->zk t 13≠1->zk t 14=1->zk t 15=0->zk t 12=0->Cx kn t (.num 1 0 (.flag .brs .esi)) { hdR t with K:=2 } [] [2,3] []
 | f2:t.length=17->zk t 13≠1->zk t 14=1->zk t 15=0->zk t 12=0->Cx kn t (.num 1 0 (.flag .esi .fdSize)) { hdR t with K:=2,B:=zk t 16==1 } [] [2,3] []
 | f3:18<=t.length->t.length < 22->zk t 13≠1->zk t 14=1->zk t 15=0->zk t 12=0->Cx kn t (.num (22 - t.length) (zF (t.drop 18)) (.size .sized)) (fdF t) [] [2,3] []
 | f4 (j c:Nat):22+8*j<=t.length->t.length < 22+8*j+8->zk t 13≠1->zk t 14=1->zk t 15=0->zk t 12=0->fdN t=c->j < c->Cx kn t (.num (8 - (t.length - (22+8*j))) (zF (t.drop (22+8*j))) (.data (c - j) (.fixd (zx c)))) (fdF t) (z0p (t.drop 22)) [zx c] []
theorem z0f{left n:Nat}{k:KN}(h:m.nx = .num left n k)(hl:left≠1)(b:Nat):m.next b={ m with nx := .num (left - 1) (n*2+b) k }:=by
 unfold PM.next
 rw[h]
 exact if_neg hl
theorem zC{n:Nat}{k:KN}(h:m.nx = .num 1 n k)(b:Nat):m.next b=z1W k (n*2+b) m:=by
 unfold PM.next
 rw[h]
 exact if_pos rfl
theorem z1s{want:List Nat}{k:K0}(h:m.nx = .must want k)(b:Nat):m.next b=m.mustGo want k b:=by
 unfold PM.next
 rw[h]
theorem zhU(kn:Bool)(g:Nat->Nat):zu kn 1 g=if g 0=1 then .bad else .on:=by unfold zu;rw[if_pos rfl]
theorem zhY{kn:Bool}{n:Nat}(h1:n≠1)(h:n < 14):zu kn n g = .on:=by unfold zu;rw[if_neg h1,if_pos h]
theorem zlZ(kn:Bool)(g:Nat->Nat):zu kn 14 g=if g 13=1/\g 12=0 then .bad else .on:=by unfold zu;rw[if_neg (by omega),if_neg (by omega),if_pos rfl]
theorem z8x{kn:Bool}{n:Nat}(h:15<=n)(h13:g 13=1):zu kn n g=if n < 34 then .on else if n=34 then(if g 33=1 then .bad else .on)else if n=35 then(if g 34=1 then .bad else .on)else if n < 39 then .on else z1N n 39 (g 32) (z1x g 35):=by
 unfold zu;rw[if_neg (by omega),if_neg (by omega),if_neg (by omega),if_pos h13]
theorem z8u {kn:Bool} {n:Nat} (h:15<=n) (h13:g 13≠1):zu kn n g=if n=15 then(if g 14=1/\g 12=1 then .bad else .on)
    else if g 14=0 then(if n < 19 then .on else z1N n 19 (g 12) (z1x g 15))
    else if n=16 then(if g 15=1/\kn=false then .alien else .on)
    else if g 15=0 then(if n < 22 then .on else if n=22+8*atF 2 (z1x g 18)then .fd else .on)
    else if g 16=1 then .bad else .xl:=by
 unfold zu;rw[if_neg (by omega),if_neg (by omega),if_neg (by omega),if_neg h13]
theorem z7y{kn:Bool}{t:List Nat}{a:Nat}(h:z9k t a)(hn:a < t.length):zz kn t=if t.length < a+4 then .on else z1N t.length (a+4) (if zk t 13=1 then zk t 32 else zk t 12) (z1x (zk t) a):=by
 unfold zz
 rcases h with ⟨rfl,h13⟩ | ⟨rfl,h13,h14⟩
 ·rw[z8x (by omega) h13,if_neg (by omega),if_neg (by omega),if_neg (by omega),if_pos h13]
 ·rw[z8u (by omega) h13,if_neg (by omega),if_pos h14,if_neg h13]
def z3v(kn:Bool)(t':List Nat)(m r:PM):Prop :=
 match zz kn t' with
 | .on=>∃nx f l oR oP,r={ m with nx:=nx,f:=f,l:=l,oR:=oR,oP:=oP }/\Cx kn t' nx f l oR oP/\(∀k∈oR,k∈m.oR)/\(∀k∈oP,k∈m.oP)
 | .bad=>r=m.bad 5
 | .alien=>r=m.fin ⟨4,0,noF,[]⟩
 | .cl=>r={ m with raw := .bare,nx := .must [1] .delimited,f:=clF t',l:=clD t',oR:=[],oP:=[1],wrong := !z1F 1 t' }
 | .fd=>r={ m with raw := .spaced,every:=4,since:=4,oR:=[zx (fdN t')],oP:=[zx (fdN t')],f:=fdF t',l:=fdD t',nx := .num 4 0 (.check (zF (zw m.stuffs)) (.sumFd (zx (fdN t')))) }/\zx (fdN t')∈m.oR
 | .xl=>r={ m with raw := .bare,f:={ hdR t' with K:=3 },nx := .must [1,0,0,1] .dataPart }/\zk t' 12=0/\t'.length=17/\4∈m.oP/\m.l=[]
theorem z3v.on{kn:Bool}{r:PM}(hj:zz kn t' = .on){nx:Nx}{f:Hd}{l oP:List Nat}(hr:r={ m with nx:=nx,f:=f,l:=l,oR:=oR,oP:=oP })(hc:Cx kn t' nx f l oR oP)(h1:∀k∈oR,k∈m.oR)(h2:∀k∈oP,k∈m.oP):z3v kn t' m r:=by
 unfold z3v
 rw[hj]
 exact⟨nx,f,l,oR,oP,hr,hc,h1,h2⟩
theorem z3v.bad{kn:Bool}{r:PM}(hj:zz kn t' = .bad)(hr:r=m.bad 5):z3v kn t' m r:=by unfold z3v;rw[hj];exact hr
structure Cm(kn:Bool)(t:List Nat)(b:Nat)(m:PM):Prop where
 kn:m.kn=kn
 wr:m.wrong=false
 ht:∀x∈t,x<=1
 hb:b<=1
 hs:∀k∈m.oP,m.re k=cN k (t++[b])
 hl:t.length+1<=65536
theorem Cm.len{kn:Bool}{t:List Nat}(_:Cm kn t b m):(t++[b]).length=t.length+1:=by simp
theorem Cm.ht'{kn:Bool}{t:List Nat}(h:Cm kn t b m):∀x∈t++[b],x<=1:=by
 intro x hx
 rcases List.mem_append.1 hx with h1 | h1
 ·exact h.ht x h1
 ·have:=List.mem_singleton.1 h1;have:=h.hb;omega
theorem zlo{kn:Bool}{t:List Nat}(h:Cm kn t b m)(hnx:m.nx = .must [0] .top)(hf:m.f=noF)(hl:m.l=[])(hR:m.oR=[2,3])(hP:m.oP=[1,4])(h0:t=[]):z3v kn (t++[b]) m (m.next b):=by
 subst h0
 have hb:=h.hb
 rw[z1s hnx,List.nil_append]
 by_cases e:b=0
 ·subst e
  refine .on (nx := .num 11 0 .identified) (f:=m.f) (l:=m.l) (oR:=m.oR) (oP:=m.oP) ?_ (by simp[PM.mustGo];rfl) ?_ (fun _ h=>h) (fun _ h=>h)
  ·unfold zz;exact zhU kn _
  ·rw[hf,hl,hR,hP]
   exact Cx.s1 (kn:=kn) (t:=[0]) (by simp) (by simp)
 ·refine .bad ?_ (by simp[PM.mustGo,e])
  unfold zz
  rw[show([b]:List Nat).length=1 from rfl,zhU,if_pos (by simp[zk];omega)]
theorem zlD{kn:Bool}{t:List Nat}(h:Cm kn t b m)(hnx:m.nx = .num (12 - t.length) (zF (t.drop 1)) .identified)(hf:m.f=noF)(hl:m.l=[])(hR:m.oR=[2,3])(hP:m.oP=[1,4])(h1:1<=t.length)(h2:t.length < 12):z3v kn (t++[b]) m (m.next b):=by
 have hj:zz kn (t++[b]) = .on:=by unfold zz;rw[h.len];exact zhY (by omega) (by omega)
 by_cases e:t.length=11
 ·rw[e]at hnx
  rw[zC hnx,<- zg (by omega)]
  have hid:idN (t++[b])=zF ((t++[b]).drop 1):=z42 (by rw[h.len,e])
  rw[<- hid]
  refine .on hj (nx := .num 2 0 .longOrNot) (f:={ m.f with I:=(idN (t++[b]):Nat) }) (l:=m.l) (oR:=m.oR) (oP:=m.oP) rfl ?_ (fun _ h=>h) (fun _ h=>h)
  rw[hf,hl,hR,hP]
  have c:=Cx.s2 (kn:=kn) (t:=t++[b]) (by rw[h.len];omega) (by rw[h.len];omega)
  rw[zp (by rw[h.len];omega),h.len,e]at c
  exact c
 ·rw[z0f hnx (by omega),<- zg (by omega)]
  refine .on hj (f:=m.f) (l:=m.l) (oR:=m.oR) (oP:=m.oP) rfl ?_ (fun _ h=>h) (fun _ h=>h)
  rw[hf,hl,hR,hP]
  have c:=Cx.s1 (kn:=kn) (t:=t++[b]) (by rw[h.len];omega) (by rw[h.len];omega)
  rw[h.len,show 12 - (t.length+1)=12 - t.length - 1 by omega]at c
  exact c
theorem zlY{kn:Bool}{t:List Nat}(h:Cm kn t b m)(hnx:m.nx = .num (14 - t.length) (zF (t.drop 12)) .longOrNot)(hf:m.f=hdS t)(hl:m.l=[])(hR:m.oR=[2,3])(hP:m.oP=[1,4])(h1:12<=t.length)(h2:t.length < 14):z3v kn (t++[b]) m (m.next b):=by
 by_cases e:t.length=13
 ·rw[e]at hnx
  rw[zC hnx,<- zg (by omega)]
  have hj:zz kn (t++[b])=if zk (t++[b]) 13=1/\zk (t++[b]) 12=0 then .bad else .on:=by unfold zz;rw[h.len,e];exact zlZ kn _
  rw[zg2 (by rw[h.len,e])]
  have g12:=z3s h.ht' 12
  have g13:=z3s h.ht' 13
  have hdr:(t++[b]).drop 14=[]:=List.drop_eq_nil_of_le (by rw[h.len];omega)
  have hs:=z4Y (t:=t) (b:=b) h1
  rcases(by omega:(zk (t++[b]) 12=1/\zk (t++[b]) 13=1)\/(zk (t++[b]) 12=0/\zk (t++[b]) 13=1)\/zk (t++[b]) 13=0)with ⟨a1,a2⟩ | ⟨a1,a2⟩ | a2
  ·rw[a1,a2]
   refine .on (by rw[hj,if_neg (by omega)]) (nx := .num 18 0 .prolonged) (f:={ m.f with X:=true }) (l:=m.l) (oR:=m.oR) (oP:=m.oP) rfl ?_ (fun _ h=>h) (fun _ h=>h)
   rw[hf,hl,hR,hP]
   have c:=Cx.x1 (kn:=kn) (t:=t++[b]) (by rw[h.len];omega) (by rw[h.len];omega) a2
   rw[hdr,h.len,e]at c
   unfold hdX at c
   rw[hs]at c
   exact c
  ·rw[a1,a2]
   exact .bad (by rw[hj,if_pos ⟨a2,a1⟩]) rfl
  ·rw[a2]
   have e2:z1W .longOrNot (zk (t++[b]) 12*2+0) m=PM.num { m with f:={ m.f with R:=zk (t++[b]) 12==1 } } 1 .classicOrNot:=by
    rcases(by omega:zk (t++[b]) 12=0\/zk (t++[b]) 12=1)with q | q<;>rw[q]<;>rfl
   rw[e2]
   refine .on (by rw[hj,if_neg (by omega)]) (nx := .num 1 0 .classicOrNot) (f:={ m.f with R:=zk (t++[b]) 12==1 }) (l:=m.l) (oR:=m.oR) (oP:=m.oP) rfl ?_ (fun _ h=>h) (fun _ h=>h)
   rw[hf,hl,hR,hP]
   have c:=Cx.r1 (kn:=kn) (t:=t++[b]) (by rw[h.len,e]) (by omega)
   unfold hdR at c
   rw[hs]at c
   exact c
 ·have hj:zz kn (t++[b]) = .on:=by unfold zz;rw[h.len];exact zhY (by omega) (by omega)
  rw[z0f hnx (by omega),<- zg (by omega)]
  refine .on hj (f:=m.f) (l:=m.l) (oR:=m.oR) (oP:=m.oP) rfl ?_ (fun _ h=>h) (fun _ h=>h)
  rw[hf,hl,hR,hP]
  have c:=Cx.s2 (kn:=kn) (t:=t++[b]) (by rw[h.len];omega) (by rw[h.len];omega)
  rw[h.len,show 14 - (t.length+1)=14 - t.length - 1 by omega,z4Y h1]at c
  exact c
theorem zk5(a b:Nat)(ha:a < 4294967296)(hb:b < 4294967296):bits BinOp.or IntKind.u32 (a:Int) (b:Int)=((a ||| b:Nat):Int):=by
 have hx:a ||| b < 2^32:=Nat.or_lt_two_pow (by omega) (by omega)
 have h1:(BitVec.ofInt 32 (a:Int)).toNat=a:=by rw[BitVec.ofInt_natCast,BitVec.toNat_ofNat];exact Nat.mod_eq_of_lt (by omega)
 have h2:(BitVec.ofInt 32 (b:Int)).toNat=b:=by rw[BitVec.ofInt_natCast,BitVec.toNat_ofNat];exact Nat.mod_eq_of_lt (by omega)
 show IntKind.u32.wrap ((BitVec.ofInt 32 (a:Int) ||| BitVec.ofInt 32 (b:Int)).toNat:Int)=_
 rw[BitVec.toNat_or,h1,h2,IntKind.wrap_u32]
 omega
theorem zgl{i:Nat}(hi:i < 2048)(hv:v < 262144):z8j (i:Nat) v=((i*262144+v:Nat):Int):=by
 unfold z8j
 have e1:((i:Int)*262144%4294967296)=((i*262144:Nat):Int):=by omega
 rw[e1]
 have h1:=zk5 (i*262144) v (by omega) (by omega)
 rw[h1]
 have h2:=Nat.two_pow_add_eq_or_of_lt (i:=18) (b:=v) (by omega) i
 rw[show i*262144=2^18*i by omega,<- h2]
theorem zmm{kn:Bool}{t:List Nat}(h:Cm kn t b m)(hnx:m.nx = .num (32 - t.length) (zF (t.drop 14)) .prolonged)(hf:m.f=hdX t)(hl:m.l=[])(hR:m.oR=[2,3])(hP:m.oP=[1,4])(h1:14<=t.length)(h2:t.length < 32)(h13:zk t 13=1):z3v kn (t++[b]) m (m.next b):=by
 have g13:zk (t++[b]) 13=1:=by rw[zj (by omega),h13]
 have hj:zz kn (t++[b]) = .on:=by unfold zz;rw[h.len,z8x (by omega) g13,if_pos (by omega)]
 by_cases e:t.length=31
 ·rw[e]at hnx
  rw[zC hnx,<- zg (by omega)]
  have hv:zF ((t++[b]).drop 14) < 262144:=by
   have:=z3u ((t++[b]).drop 14) (fun x hx=>h.ht' x (List.mem_of_mem_drop hx))
   rw[List.length_drop,h.len,e]at this
   exact this
  have hE:z8j m.f.I (zF ((t++[b]).drop 14))=((idN t*262144+zF ((t++[b]).drop 14):Nat):Int):=by
   rw[hf]
   exact zgl (zkt h.ht) hv
  refine .on hj (nx := .num 1 0 (.flag .rtr .heads)) (f:={ m.f with I:=((idN t*262144+zF ((t++[b]).drop 14):Nat):Int) }) (l:=m.l) (oR:=m.oR) (oP:=m.oP) (by rw[<- hE];rfl) ?_ (fun _ h=>h) (fun _ h=>h)
  rw[hf,hl,hR,hP]
  have c:=Cx.x2 (kn:=kn) (t:=t++[b]) (by rw[h.len,e]) g13
  unfold hdL at c
  rw[z7e (by omega),z6R (by omega),z42 (by rw[h.len,e])]at c
  exact c
 ·rw[z0f hnx (by omega),<- zg (by omega)]
  refine .on hj (f:=m.f) (l:=m.l) (oR:=m.oR) (oP:=m.oP) rfl ?_ (fun _ h=>h) (fun _ h=>h)
  rw[hf,hl,hR,hP]
  have c:=Cx.x1 (kn:=kn) (t:=t++[b]) (by rw[h.len];omega) (by rw[h.len];omega) g13
  rw[h.len,show 32 - (t.length+1)=32 - t.length - 1 by omega,z7e (by omega)]at c
  exact c
theorem z7E(h:b<=1)(n:Nat)(hn:n=b):(0*2+b==1)=(n==1):=by subst hn;congr 1;omega
theorem zlw{kn:Bool}{t:List Nat}(h:Cm kn t b m)(hnx:m.nx = .num 1 0 (.flag .rtr .heads))(hf:m.f=hdL t)(hl:m.l=[])(hR:m.oR=[2,3])(hP:m.oP=[1,4])(h1:t.length=32)(h13:zk t 13=1):z3v kn (t++[b]) m (m.next b):=by
 have g13:zk (t++[b]) 13=1:=by rw[zj (by omega),h13]
 have hj:zz kn (t++[b]) = .on:=by unfold zz;rw[h.len,z8x (by omega) g13,if_pos (by omega)]
 rw[zC hnx]
 refine .on hj (nx := .must [0,0] .classic) (f:={ m.f with R:=0*2+b==1 }) (l:=m.l) (oR:=m.oR) (oP:=m.oP) rfl ?_ (fun _ h=>h) (fun _ h=>h)
 rw[hf,hl,hR,hP,z7E h.hb (zk (t++[b]) 32) (z18 (by omega))]
 have c:=Cx.x3 (kn:=kn) (t:=t++[b]) (by rw[h.len,h1]) g13
 unfold zgI at c
 rw[zau (by omega)]at c
 exact c
theorem zlN{kn:Bool}{t:List Nat}(h:Cm kn t b m)(hnx:m.nx = .must [0,0] .classic)(hf:m.f=zgI t)(hl:m.l=[])(hR:m.oR=[2,3])(hP:m.oP=[1,4])(h1:t.length=33)(h13:zk t 13=1):z3v kn (t++[b]) m (m.next b):=by
 have g13:zk (t++[b]) 13=1:=by rw[zj (by omega),h13]
 have hb:=h.hb
 have g33:zk (t++[b]) 33=b:=z18 (by omega)
 have hj:zz kn (t++[b])=if b=1 then .bad else .on:=by unfold zz;rw[h.len,h1,z8x (by omega) g13,if_neg (by omega),if_pos rfl,g33]
 rw[z1s hnx]
 by_cases e:b=0
 ·subst e
  refine .on (by rw[hj,if_neg (by omega)]) (nx := .must [0] .classic) (f:=m.f) (l:=m.l) (oR:=m.oR) (oP:=m.oP) (by simp[PM.mustGo]) ?_ (fun _ h=>h) (fun _ h=>h)
  rw[hf,hl,hR,hP]
  have c:=Cx.x4 (kn:=kn) (t:=t++[0]) (by rw[h.len,h1]) g13
  rw[z5v (by omega)]at c
  exact c
 ·exact .bad (by rw[hj,if_pos (by omega)]) (by simp[PM.mustGo,e])
theorem zlI{kn:Bool}{t:List Nat}(h:Cm kn t b m)(hnx:m.nx = .must [0] .classic)(hf:m.f=zgI t)(hl:m.l=[])(hR:m.oR=[2,3])(hP:m.oP=[1,4])(h1:t.length=34)(h13:zk t 13=1):z3v kn (t++[b]) m (m.next b):=by
 have g13:zk (t++[b]) 13=1:=by rw[zj (by omega),h13]
 have hb:=h.hb
 have g34:zk (t++[b]) 34=b:=z18 (by omega)
 have hj:zz kn (t++[b])=if b=1 then .bad else .on:=by unfold zz;rw[h.len,h1,z8x (by omega) g13,if_neg (by omega),if_neg (by omega),if_pos rfl,g34]
 rw[z1s hnx]
 by_cases e:b=0
 ·subst e
  refine .on (by rw[hj,if_neg (by omega)]) (nx := .num 4 0 (.size .cl)) (f:={ m.f with K:=1 }) (l:=m.l) (oR:=[]) (oP:=[1]) (by simp[PM.mustGo];rfl) ?_ (by simp) (by rw[hP];simp)
  rw[hf,hl]
  have c:=Cx.c1 (kn:=kn) (t:=t++[0]) 35 (.inl ⟨rfl,g13⟩) (by rw[h.len];omega) (by rw[h.len];omega)
  rw[zp (by rw[h.len];omega),h.len,h1,z7c g13,z5v (by omega)]at c
  exact c
 ·exact .bad (by rw[hj,if_pos (by omega)]) (by simp[PM.mustGo,e])
theorem z9k.more{t:List Nat}{a:Nat}(h:z9k t a)(hn:15<=t.length):z9k (t++[b]) a:=by
 rcases h with ⟨h1,h2⟩ | ⟨h1,h2,h3⟩
 ·exact .inl ⟨h1,by rw[zj (by omega),h2]⟩
 ·exact .inr ⟨h1,by rw[zj (by omega)];exact h2,by rw[zj (by omega),h3]⟩
theorem z9k.ge{t:List Nat}{a:Nat}(h:z9k t a):15<=a:=by rcases h with ⟨h1,_⟩ | ⟨h1,_⟩<;>omega
theorem z9k.at{t:List Nat}{a:Nat}(h:z9k t a):zhu t=a+4:=by
 unfold zhu
 rcases h with ⟨rfl,h2⟩ | ⟨rfl,h2,_⟩
 ·rw[if_pos h2]
 ·rw[if_neg h2]
theorem z7g{t:List Nat}{a:Nat}(h:z9k t a)(hn:a<=t.length):clF (t++[b])=clF t:=by
 rcases h with ⟨rfl,h2⟩ | ⟨rfl,h2,_⟩
 ·rw[z7c h2,z7c (by rw[zj (by omega),h2]),z5v (by omega)]
 ·rw[z6S h2,z6S (by rw[zj (by omega)];exact h2),z2m (by omega)]
theorem zlA{t:List Nat}{a:Nat}(h:z9k t a):(clF t).R=((if zk t 13=1 then zk t 32 else zk t 12)==1)/\(clF t).K=1:=by
 rcases h with ⟨rfl,h2⟩ | ⟨rfl,h2,_⟩
 ·rw[z7c h2,if_pos h2];exact⟨rfl,rfl⟩
 ·rw[z6S h2,if_neg h2];exact⟨rfl,rfl⟩
theorem zlT(v:Nat):(z1c 1 (v:Nat)≠0↔9<=v)/\(v < 9->z0m 1 (v:Nat)=v):=by
 have e:isC 1 (v:Nat)=decide (v < 9):=by
  unfold isC
  rw[show z0R 1=9 from rfl]
  by_cases h:v < 9
  ·rw[decide_eq_true h];simp;omega
  ·rw[decide_eq_false h];simp;omega
 constructor
 ·unfold z1c
  rw[e]
  by_cases h:v < 9
  ·rw[decide_eq_true h];simp;omega
  ·rw[decide_eq_false h];simp;omega
 ·intro h
  unfold z0m
  rw[e,decide_eq_true h,if_pos rfl,Int.toNat_natCast]
  exact at1 v h
theorem zfJ{t:List Nat}(h:∀x∈t,x<=1)(i:Nat):z1x (zk t) i < 16:=by
 have a:=z3s h i
 have b:=z3s h (i+1)
 have c:=z3s h (i+2)
 have d:=z3s h (i+3)
 unfold z1x
 omega
theorem z5E{t:List Nat}(h:∀x∈t,x<=1)(hl:t.length=j+8):zF (t.drop j)%256=zF (t.drop j):=by
 have:=z3u (t.drop j) (fun x hx=>h x (List.mem_of_mem_drop hx))
 rw[List.length_drop,hl,show j+8 - j=8 by omega]at this
 omega
theorem zli{kn:Bool}{t:List Nat}(h:Cm kn t b m)(a:Nat)(hnx:m.nx = .num (a+4 - t.length) (zF (t.drop a)) (.size .cl))(hf:m.f=clF t)(hl:m.l=[])(hR:m.oR=[])(hP:m.oP=[1])(hB:z9k t a)(h1:a<=t.length)(h2:t.length < a+4):z3v kn (t++[b]) m (m.next b):=by
 have ha:=hB.ge
 have hB':=hB.more (b:=b) (by omega)
 have hfm:=z7g (b:=b) hB h1
 by_cases e:t.length=a+3
 ·rw[show a+4 - t.length=1 by omega]at hnx
  rw[zC hnx,<- zg (by omega),z7V (by rw[h.len];omega)]
  have hj:zz kn (t++[b])=z1N (a+4) (a+4) (if zk (t++[b]) 13=1 then zk (t++[b]) 32 else zk (t++[b]) 12) (z1x (zk (t++[b])) a):=by
   rw[z7y hB' (by rw[h.len];omega),h.len,if_neg (by omega),show t.length+1=a+4 by omega]
  obtain⟨fR,fK⟩:=zlA hB'
  rw[hfm]at fR fK
  have hc16:=zfJ h.ht' a
  generalize hcd:z1x (zk (t++[b])) a=c at *
  generalize (if zk (t++[b]) 13=1 then zk (t++[b]) 32 else zk (t++[b]) 12)=r at *
  obtain⟨z1,z2⟩:=zlT c
  have hrun:z1W (.size .cl) c m=if 9<=c\/(r=1/\0 < c)then m.bad 5 else m.data c .sumCl:=by
   show(if z1c m.f.K c≠0\/(m.f.R=true/\z0m m.f.K c≠0)then m.bad 5 else zcw .cl (z0m m.f.K c) m)=_
   rw[hf,fK,fR]
   by_cases q:9<=c
   ·rw[if_pos (.inl (z1.2 q)),if_pos (.inl q)]
   ·rw[z2 (by omega)]
    by_cases q2:r=1/\0 < c
    ·rw[if_pos (.inr ⟨by rw[beq_iff_eq];exact q2.1,by omega⟩),if_pos (.inr q2)]
    ·rw[if_neg,if_neg]
     ·rfl
     ·rintro(q3 | q3)
      ·omega
      ·exact q2 q3
     ·rintro(q3 | ⟨q3,q4⟩)
      ·exact q (z1.1 q3)
      ·rw[beq_iff_eq]at q3;exact q2 ⟨q3,by omega⟩
  rw[hrun]
  by_cases q:9<=c\/(r=1/\0 < c)
  ·rw[if_pos q]
   refine .bad ?_ rfl
   have q':8 < c\/(r=1/\0 < c):=by
    rcases q with q | q
    ·exact .inl (by omega)
    ·exact .inr q
   rw[hj,z1N,if_pos ⟨rfl,q'⟩]
  ·rw[if_neg q]
   have hon:zz kn (t++[b]) = .on:=by
    rw[hj,z1N,if_neg (by rintro⟨_,q1 | q1⟩;exact q (.inl (by omega));exact q (.inr q1)),if_neg (by omega)]
   by_cases q0:c=0
   ·refine .on hon (nx := .num 15 0 (.check (m.re 1) .tail)) (f:=m.f) (l:=m.l) (oR:=m.oR) (oP:=m.oP) (by unfold PM.data;rw[if_pos q0];rfl) ?_ (fun _ h=>h) (fun _ h=>h)
    rw[h.hs 1 (by rw[hP];simp),hf,hl,hR,hP]
    have cx:=Cx.c3 (kn:=kn) (t:=t++[b]) a 0 hB' (by rw[h.len];omega) (by rw[h.len];omega) (by rw[hcd,q0])
    rw[zp (by rw[h.len];omega),h.len,hfm,List.take_of_length_le (by rw[h.len];omega),show 15 - (t.length+1 - (a+4+8*0))=15 by omega,show 8*0=0 from rfl,List.take_zero]at cx
    exact cx
   ·refine .on hon (nx := .num 8 0 (.data c .sumCl)) (f:=m.f) (l:=m.l) (oR:=m.oR) (oP:=m.oP) (by unfold PM.data;rw[if_neg q0];rfl) ?_ (fun _ h=>h) (fun _ h=>h)
    rw[hf,hl,hR,hP]
    have cx:=Cx.c2 (kn:=kn) (t:=t++[b]) a 0 c hB' (by rw[h.len];omega) (by rw[h.len];omega) hcd (by omega)
    rw[zp (by rw[h.len];omega),h.len,hfm,List.drop_eq_nil_of_le (by rw[h.len];omega),show 8 - (t.length+1 - (a+4+8*0))=8 by omega]at cx
    exact cx
 ·have hon:zz kn (t++[b]) = .on:=by rw[z7y hB' (by rw[h.len];omega),h.len,if_pos (by omega)]
  rw[z0f hnx (by omega),<- zg (by omega)]
  refine .on hon (f:=m.f) (l:=m.l) (oR:=m.oR) (oP:=m.oP) rfl ?_ (fun _ h=>h) (fun _ h=>h)
  rw[hf,hl,hR,hP]
  have cx:=Cx.c1 (kn:=kn) (t:=t++[b]) a hB' (by rw[h.len];omega) (by rw[h.len];omega)
  rw[h.len,show a+4 - (t.length+1)=a+4 - t.length - 1 by omega,hfm]at cx
  exact cx
theorem zlU{kn:Bool}{t:List Nat}(h:Cm kn t b m)(a j c:Nat)(hnx:m.nx = .num (8 - (t.length - (a+4+8*j))) (zF (t.drop (a+4+8*j))) (.data (c - j) .sumCl))(hf:m.f=clF t)(hl:m.l=z0p (t.drop (a+4)))(hR:m.oR=[])(hP:m.oP=[1])(hB:z9k t a)(h1:a+4+8*j<=t.length)(h2:t.length < a+4+8*j+8)(hc:z1x (zk t) a=c)(hjc:j < c):z3v kn (t++[b]) m (m.next b):=by
 have ha:=hB.ge
 have hB':=hB.more (b:=b) (by omega)
 have hfm:=z7g (b:=b) hB (by omega)
 have hc':z1x (zk (t++[b])) a=c:=by rw[z5N (by omega),hc]
 have hon:zz kn (t++[b]) = .on:=by
  rw[z7y hB' (by rw[h.len];omega),h.len,if_neg (by omega),z1N,hc',if_neg (by rintro⟨q,_⟩;omega),if_neg (by omega)]
 by_cases e:t.length=a+4+8*j+7
 ·rw[show 8 - (t.length - (a+4+8*j))=1 by omega]at hnx
  rw[zC hnx,<- zg (by omega)]
  have hl':m.l++[zF ((t++[b]).drop (a+4+8*j))%256]=z0p ((t++[b]).drop (a+4)):=by
   rw[z5E h.ht' (by rw[h.len];omega),hl,z4b (a:=a+4) (n:=j) (by omega)]
  have hrun:z1W (.data (c - j) .sumCl) (zF ((t++[b]).drop (a+4+8*j))) m=PM.data { m with l:=z0p ((t++[b]).drop (a+4)) } (c - j - 1) .sumCl:=by
   rw[<- hl'];rfl
  rw[hrun]
  by_cases q0:c - j - 1=0
  ·refine .on hon (nx := .num 15 0 (.check (m.re 1) .tail)) (f:=m.f) (l:=z0p ((t++[b]).drop (a+4))) (oR:=m.oR) (oP:=m.oP) (by unfold PM.data;rw[if_pos q0];rfl) ?_ (fun _ h=>h) (fun _ h=>h)
   rw[h.hs 1 (by rw[hP];simp),hf,hR,hP]
   have cx:=Cx.c3 (kn:=kn) (t:=t++[b]) a c hB' (by rw[h.len];omega) (by rw[h.len];omega) hc'
   rw[zp (by rw[h.len];omega),h.len,hfm,List.take_of_length_le (l:=t++[b]) (by rw[h.len];omega),List.take_of_length_le (by rw[List.length_drop,h.len];omega),show 15 - (t.length+1 - (a+4+8*c))=15 by omega]at cx
   exact cx
  ·refine .on hon (nx := .num 8 0 (.data (c - j - 1) .sumCl)) (f:=m.f) (l:=z0p ((t++[b]).drop (a+4))) (oR:=m.oR) (oP:=m.oP) (by unfold PM.data;rw[if_neg q0];rfl) ?_ (fun _ h=>h) (fun _ h=>h)
   rw[hf,hR,hP]
   have cx:=Cx.c2 (kn:=kn) (t:=t++[b]) a (j+1) c hB' (by rw[h.len];omega) (by rw[h.len];omega) hc' (by omega)
   rw[zp (by rw[h.len];omega),h.len,hfm,show 8 - (t.length+1 - (a+4+8*(j+1)))=8 by omega,show c - (j+1)=c - j - 1 by omega]at cx
   exact cx
 ·rw[z0f hnx (by omega),<- zg (by omega)]
  refine .on hon (f:=m.f) (l:=m.l) (oR:=m.oR) (oP:=m.oP) rfl ?_ (fun _ h=>h) (fun _ h=>h)
  rw[hf,hl,hR,hP]
  have cx:=Cx.c2 (kn:=kn) (t:=t++[b]) a j c hB' (by rw[h.len];omega) (by rw[h.len];omega) hc' hjc
  rw[h.len,show 8 - (t.length+1 - (a+4+8*j))=8 - (t.length - (a+4+8*j)) - 1 by omega,hfm,z4e (by omega) (by omega)]at cx
  exact cx
theorem zlR{kn:Bool}{t:List Nat}(h:Cm kn t b m)(a c:Nat)(hnx:m.nx = .num (15 - (t.length - (a+4+8*c))) (zF (t.drop (a+4+8*c))) (.check (cN 1 (t.take (a+4+8*c))) .tail))(hf:m.f=clF t)(hl:m.l=z0p ((t.drop (a+4)).take (8*c)))(hR:m.oR=[])(hP:m.oP=[1])(hB:z9k t a)(h1:a+4+8*c<=t.length)(h2:t.length < a+4+8*c+15)(hc:z1x (zk t) a=c):z3v kn (t++[b]) m (m.next b):=by
 have ha:=hB.ge
 have hB':=hB.more (b:=b) (by omega)
 have hfm:=z7g (b:=b) hB (by omega)
 have hc':z1x (zk (t++[b])) a=c:=by rw[z5N (by omega),hc]
 have hj:zz kn (t++[b])=if t.length+1=a+4+8*c+15 then .cl else .on:=by
  rw[z7y hB' (by rw[h.len];omega),h.len,if_neg (by omega),z1N,hc',if_neg (by rintro⟨q,_⟩;omega)]
 have htk:(t++[b]).take (a+4+8*c)=t.take (a+4+8*c):=z0Q h1
 have hld:z0p (((t++[b]).drop (a+4)).take (8*c))=m.l:=by rw[z0U (by omega),hl]
 by_cases e:t.length=a+4+8*c+14
 ·rw[show 15 - (t.length - (a+4+8*c))=1 by omega]at hnx
  rw[zC hnx,<- zg (by omega)]
  unfold z3v
  rw[hj,if_pos (by omega)]
  have hfit:z1F 1 (t++[b])=decide (zF ((t++[b]).drop (a+4+8*c))=cN 1 (t.take (a+4+8*c))):=by
   have hch:chk (t++[b])=true:=z0g h.ht' (by rw[h.len];exact h.hl)
   unfold z1F
   rw[hch,show szK 1=15 from rfl,h.len,show t.length+1 - 15=a+4+8*c by omega,htk,decide_eq_true (show(15:Nat)≠0 by omega),decide_eq_true (show 15<=t.length+1 by omega)]
   rfl
  show z1f .tail { m with wrong:=m.wrong||zF ((t++[b]).drop (a+4+8*c)) != cN 1 (t.take (a+4+8*c)) }=_
  have hcd:clD (t++[b])=m.l:=by
   unfold clD
   rw[hB'.at,show a+4 - 4=a by omega,hc',hld]
  rw[hfit,hfm,hcd,h.wr,<- hf]
  rw[show(false||zF ((t++[b]).drop (a+4+8*c)) != cN 1 (t.take (a+4+8*c))) = !decide (zF ((t++[b]).drop (a+4+8*c))=cN 1 (t.take (a+4+8*c))) by
   rw[Bool.false_or];rfl]
  show({ m with raw := .bare,wrong := !decide (zF ((t++[b]).drop (a+4+8*c))=cN 1 (t.take (a+4+8*c))),nx := .must [1] .delimited }:PM)=_
  rw[hR,hP]
 ·rw[z0f hnx (by omega),<- zg (by omega)]
  refine .on (by rw[hj,if_neg (by omega)]) (f:=m.f) (l:=m.l) (oR:=m.oR) (oP:=m.oP) rfl ?_ (fun _ h=>h) (fun _ h=>h)
  rw[<- hld,hf,hR,hP]
  have cx:=Cx.c3 (kn:=kn) (t:=t++[b]) a c hB' (by rw[h.len];omega) (by rw[h.len];omega) hc'
  rw[h.len,show 15 - (t.length+1 - (a+4+8*c))=15 - (t.length - (a+4+8*c)) - 1 by omega,hfm,htk]at cx
  exact cx
theorem zlX{kn:Bool}{t:List Nat}(h:Cm kn t b m)(hnx:m.nx = .num 1 0 .classicOrNot)(hf:m.f=hdR t)(hl:m.l=[])(hR:m.oR=[2,3])(hP:m.oP=[1,4])(h1:t.length=14)(h13:zk t 13≠1):z3v kn (t++[b]) m (m.next b):=by
 have g13:zk (t++[b]) 13≠1:=by rw[zj (by omega)];exact h13
 have g14:zk (t++[b]) 14=b:=z18 (by omega)
 have g12:zk (t++[b]) 12=zk t 12:=zj (by omega)
 have hb:=h.hb
 have hle:=z3s h.ht 12
 have hj:zz kn (t++[b])=if b=1/\zk t 12=1 then .bad else .on:=by unfold zz;rw[h.len,h1,z8u (by omega) g13,if_pos rfl,g14,g12]
 rw[zC hnx]
 have hfr:m.f.R=(zk t 12==1):=by rw[hf];rfl
 by_cases e:b=0
 ·subst e
  refine .on (by rw[hj,if_neg (by omega)]) (nx := .num 4 0 (.size .cl)) (f:={ m.f with K:=1 }) (l:=m.l) (oR:=[]) (oP:=[1]) rfl ?_ (by simp) (by rw[hP];simp)
  rw[hf,hl]
  have c:=Cx.c1 (kn:=kn) (t:=t++[0]) 15 (.inr ⟨rfl,g13,g14⟩) (by rw[h.len];omega) (by rw[h.len];omega)
  rw[zp (by rw[h.len];omega),h.len,h1,z6S g13,z2m (by omega)]at c
  exact c
 ·have e1:b=1:=by omega
  subst e1
  have hrun:z1W .classicOrNot (0*2+1) m=if m.f.R then m.bad 5 else m.num 1 .fdOrXL:=rfl
  rw[hrun,hfr]
  by_cases q:zk t 12=1
  ·rw[q]
   exact .bad (by rw[hj,if_pos ⟨rfl,q⟩]) rfl
  ·have q0:(zk t 12==1)=false:=by rw[beq_eq_false_iff_ne];exact q
   rw[q0]
   refine .on (by rw[hj,if_neg (by rintro⟨_,q1⟩;exact q q1)]) (nx := .num 1 0 .fdOrXL) (f:=m.f) (l:=m.l) (oR:=m.oR) (oP:=m.oP) rfl ?_ (fun _ h=>h) (fun _ h=>h)
   rw[hf,hl,hR,hP]
   have c:=Cx.r2 (kn:=kn) (t:=t++[1]) (by rw[h.len,h1]) g13 g14 (by rw[g12];omega)
   rw[z2m (by omega)]at c
   exact c
theorem zlO{kn:Bool}{t:List Nat}(h:Cm kn t b m)(hnx:m.nx = .num 1 0 .fdOrXL)(hf:m.f=hdR t)(hl:m.l=[])(hR:m.oR=[2,3])(hP:m.oP=[1,4])(h1:t.length=15)(h13:zk t 13≠1)(h14:zk t 14=1)(h12:zk t 12=0):z3v kn (t++[b]) m (m.next b):=by
 have g13:zk (t++[b]) 13≠1:=by rw[zj (by omega)];exact h13
 have g14:zk (t++[b]) 14=1:=by rw[zj (by omega)];exact h14
 have g12:zk (t++[b]) 12=0:=by rw[zj (by omega)];exact h12
 have g15:zk (t++[b]) 15=b:=z18 (by omega)
 have hb:=h.hb
 have hj:zz kn (t++[b])=if b=1/\kn=false then .alien else .on:=by unfold zz;rw[h.len,h1,z8u (by omega) g13,if_neg (by omega),if_neg (by omega),if_pos rfl,g15]
 rw[zC hnx]
 by_cases e:b=0
 ·subst e
  refine .on (by rw[hj,if_neg (by omega)]) (nx := .num 1 0 (.flag .brs .esi)) (f:={ m.f with K:=2 }) (l:=m.l) (oR:=m.oR) (oP:=[]) rfl ?_ (fun _ h=>h) (by simp)
  rw[hf,hl,hR]
  have c:=Cx.f1 (kn:=kn) (t:=t++[0]) (by rw[h.len,h1]) g13 g14 g15 g12
  rw[z2m (by omega)]at c
  exact c
 ·have e1:b=1:=by omega
  subst e1
  have hrun:z1W .fdOrXL (0*2+1) m=if m.kn then m.must [0] .headed else m.fin ⟨4,0,noF,[]⟩:=rfl
  rw[hrun,h.kn]
  cases kn with
  | true =>
    refine .on (by rw[hj,if_neg (by simp)]) (nx := .must [0] .headed) (f:=m.f) (l:=m.l) (oR:=m.oR) (oP:=m.oP) rfl ?_ (fun _ h=>h) (fun _ h=>h)
    rw[hf,hl,hR,hP]
    have c:=Cx.l1 (kn:=true) (t:=t++[1]) (by rw[h.len,h1]) g13 g14 g15 g12 rfl
    rw[z2m (by omega)]at c
    exact c
  | false =>
    unfold z3v
    rw[hj,if_pos ⟨rfl,rfl⟩]
    rfl
theorem zm3{kn:Bool}{t:List Nat}(h:Cm kn t b m)(hnx:m.nx = .must [0] .headed)(hf:m.f=hdR t)(hl:m.l=[])(hR:m.oR=[2,3])(hP:m.oP=[1,4])(h1:t.length=16)(h13:zk t 13≠1)(h14:zk t 14=1)(h15:zk t 15=1)(h12:zk t 12=0):z3v kn (t++[b]) m (m.next b):=by
 have g13:zk (t++[b]) 13≠1:=by rw[zj (by omega)];exact h13
 have g14:zk (t++[b]) 14=1:=by rw[zj (by omega)];exact h14
 have g15:zk (t++[b]) 15=1:=by rw[zj (by omega)];exact h15
 have g16:zk (t++[b]) 16=b:=z18 (by omega)
 have hb:=h.hb
 have hj:zz kn (t++[b])=if b=1 then .bad else .xl:=by unfold zz;rw[h.len,h1,z8u (by omega) g13,if_neg (by omega),if_neg (by omega),if_neg (by omega),if_neg (by omega),g16]
 rw[z1s hnx]
 by_cases e:b=0
 ·subst e
  unfold z3v
  rw[hj,if_neg (by omega)]
  have:m.mustGo [0] .headed 0={ m with f:={ m.f with K:=3 },raw := .bare,nx := .must [1,0,0,1] .dataPart }:=by simp[PM.mustGo];rfl
  exact⟨by rw[this,hf,z2m (by omega)],by rw[zj (by omega)];exact h12,by rw[h.len,h1],by rw[hP];simp,hl⟩
 ·exact .bad (by rw[hj,if_pos (by omega)]) (by simp[PM.mustGo,e])
theorem zhy{kn:Bool}{t:List Nat}(hn:17<=t.length)(h13:zk t 13≠1)(h14:zk t 14=1)(h15:zk t 15=0):zz kn t=if t.length < 22 then .on else if t.length=22+8*fdN t then .fd else .on:=by
 unfold zz
 rw[z8u (by omega) h13,if_neg (by omega),if_neg (by omega),if_neg (by omega),if_pos h15]
 rfl
theorem zlS{kn:Bool}{t:List Nat}(h:Cm kn t b m)(hnx:m.nx = .num 1 0 (.flag .brs .esi))(hf:m.f={ hdR t with K:=2 })(hl:m.l=[])(hR:m.oR=[2,3])(hP:m.oP=[])(h1:t.length=16)(h13:zk t 13≠1)(h14:zk t 14=1)(h15:zk t 15=0)(h12:zk t 12=0):z3v kn (t++[b]) m (m.next b):=by
 have g13:zk (t++[b]) 13≠1:=by rw[zj (by omega)];exact h13
 have g14:zk (t++[b]) 14=1:=by rw[zj (by omega)];exact h14
 have g15:zk (t++[b]) 15=0:=by rw[zj (by omega)];exact h15
 have g12:zk (t++[b]) 12=0:=by rw[zj (by omega)];exact h12
 have hj:zz kn (t++[b]) = .on:=by rw[zhy (by rw[h.len];omega) g13 g14 g15,if_pos (by rw[h.len];omega)]
 rw[zC hnx]
 refine .on hj (nx := .num 1 0 (.flag .esi .fdSize)) (f:={ m.f with B:=0*2+b==1 }) (l:=m.l) (oR:=m.oR) (oP:=m.oP) rfl ?_ (fun _ h=>h) (fun _ h=>h)
 rw[hf,hl,hR,hP,z7E h.hb (zk (t++[b]) 16) (z18 (by omega))]
 have c:=Cx.f2 (kn:=kn) (t:=t++[b]) (by rw[h.len,h1]) g13 g14 g15 g12
 rw[z2m (by omega)]at c
 exact c
theorem zlh{kn:Bool}{t:List Nat}(h:Cm kn t b m)(hnx:m.nx = .num 1 0 (.flag .esi .fdSize))(hf:m.f={ hdR t with K:=2,B:=zk t 16==1 })(hl:m.l=[])(hR:m.oR=[2,3])(hP:m.oP=[])(h1:t.length=17)(h13:zk t 13≠1)(h14:zk t 14=1)(h15:zk t 15=0)(h12:zk t 12=0):z3v kn (t++[b]) m (m.next b):=by
 have g13:zk (t++[b]) 13≠1:=by rw[zj (by omega)];exact h13
 have g14:zk (t++[b]) 14=1:=by rw[zj (by omega)];exact h14
 have g15:zk (t++[b]) 15=0:=by rw[zj (by omega)];exact h15
 have g12:zk (t++[b]) 12=0:=by rw[zj (by omega)];exact h12
 have hj:zz kn (t++[b]) = .on:=by rw[zhy (by rw[h.len];omega) g13 g14 g15,if_pos (by rw[h.len];omega)]
 rw[zC hnx]
 refine .on hj (nx := .num 4 0 (.size .sized)) (f:={ m.f with E:=0*2+b==1 }) (l:=m.l) (oR:=m.oR) (oP:=m.oP) rfl ?_ (fun _ h=>h) (fun _ h=>h)
 rw[hf,hl,hR,hP,z7E h.hb (zk (t++[b]) 17) (z18 (by omega))]
 have c:=Cx.f3 (kn:=kn) (t:=t++[b]) (by rw[h.len];omega) (by rw[h.len];omega) g13 g14 g15 g12
 rw[zp (by rw[h.len];omega),h.len,h1]at c
 have e:fdF (t++[b])={ hdR t with K:=2,B:=zk t 16==1,E:=zk (t++[b]) 17==1 }:=by
  unfold fdF hdR hdS idN
  rw[z0U (by omega),zj (i:=16) (by omega),h12]
  rfl
 rw[e]at c
 exact c
theorem zaC{t:List Nat}(h:18<=t.length):fdF (t++[b])=fdF t:=by unfold fdF;rw[z0U (by omega),zj (by omega),zj (by omega)]
theorem zgN{t:List Nat}(h:22<=t.length):fdN (t++[b])=fdN t:=by unfold fdN;rw[z5N (by omega)]
theorem zlt(h:v < 16):z1c 2 (v:Nat)=0/\z0m 2 (v:Nat)=atF 2 v:=by
 have e:isC 2 (v:Nat)=true:=by
  unfold isC
  rw[show z0R 2=16 from rfl]
  simp
  omega
 exact⟨by unfold z1c;rw[e,if_pos rfl],by unfold z0m;rw[e,if_pos rfl,Int.toNat_natCast]⟩
theorem zhW{kn:Bool}{l:List Nat}(hj:zz kn t' = .fd)(hk:k=zx (fdN t'))(hf:m.f=fdF t')(hl:l=fdD t')(hmem:k∈m.oR)(m':PM)(hm:m'={ m with l:=l,oR:=[k] }):z3v kn t' m (z1f (.fixd k) m'):=by
 unfold z3v
 rw[hj]
 subst hm hk hl
 refine⟨?_,hmem⟩
 show({ m with l:=fdD t',oR:=[zx (fdN t')],raw := .spaced,every:=4,since:=4,oP:=[zx (fdN t')],nx := .num 4 0 (.check (zF (zw m.stuffs)) (.sumFd (zx (fdN t')))) }:PM)=_
 rw[<- hf]
theorem zlG{kn:Bool}{t:List Nat}(h:Cm kn t b m)(hnx:m.nx = .num (22 - t.length) (zF (t.drop 18)) (.size .sized))(hf:m.f=fdF t)(hl:m.l=[])(hR:m.oR=[2,3])(hP:m.oP=[])(h1:18<=t.length)(h2:t.length < 22)(h13:zk t 13≠1)(h14:zk t 14=1)(h15:zk t 15=0)(h12:zk t 12=0):z3v kn (t++[b]) m (m.next b):=by
 have g13:zk (t++[b]) 13≠1:=by rw[zj (by omega)];exact h13
 have g14:zk (t++[b]) 14=1:=by rw[zj (by omega)];exact h14
 have g15:zk (t++[b]) 15=0:=by rw[zj (by omega)];exact h15
 have g12:zk (t++[b]) 12=0:=by rw[zj (by omega)];exact h12
 have hj:=zhy (kn:=kn) (t:=t++[b]) (by rw[h.len];omega) g13 g14 g15
 have hfm:=zaC (b:=b) h1
 by_cases e:t.length=21
 ·rw[e]at hnx
  rw[zC hnx,<- zg (by omega),z7V (by rw[h.len];omega)]
  rw[h.len,e,if_neg (by omega)]at hj
  have hc16:=zfJ h.ht' 18
  have hN:fdN (t++[b])=atF 2 (z1x (zk (t++[b])) 18):=rfl
  obtain⟨z1,z2⟩:=zlt hc16
  have hrun:z1W (.size .sized) (z1x (zk (t++[b])) 18) m=PM.data { m with oR:=[zx (fdN (t++[b]))] } (fdN (t++[b])) (.fixd (zx (fdN (t++[b])))):=by
   show(if z1c m.f.K _≠0\/(m.f.R=true/\z0m m.f.K _≠0)then m.bad 5 else zcw .sized (z0m m.f.K _) m)=_
   rw[hf,show(fdF t).K=2 from rfl,z1,z2,if_neg (by rintro(q | ⟨q,_⟩);exact q rfl;cases q),<- hN,<- hf]
   rfl
  rw[hrun]
  generalize hn:fdN (t++[b])=N at *
  have hsub:∀k∈[zx N],k∈m.oR:=by
   rw[hR]
   intro k hk
   have:=List.mem_singleton.1 hk
   subst this
   unfold zx
   split<;>simp
  by_cases q0:N=0
  ·have:PM.data { m with oR:=[zx N] } N (.fixd (zx N))=z1f (.fixd (zx N)) { m with oR:=[zx N] }:=by unfold PM.data;rw[if_pos q0]
   rw[this]
   refine zhW (by rw[hj,if_pos (by omega)]) (by rw[hn]) (by rw[hf,hfm]) (l:=m.l) ?_ (hsub _ (by simp)) _ rfl
   rw[hl]
   unfold fdD
   rw[List.drop_eq_nil_of_le (by rw[h.len];omega)]
   rfl
  ·refine .on (by rw[hj,if_neg (by omega)]) (nx := .num 8 0 (.data N (.fixd (zx N)))) (f:=m.f) (l:=m.l) (oR:=[zx N]) (oP:=m.oP) (by unfold PM.data;rw[if_neg q0];rfl) ?_ hsub (fun _ h=>h)
   rw[hf,hl,hP]
   have c:=Cx.f4 (kn:=kn) (t:=t++[b]) 0 N (by rw[h.len];omega) (by rw[h.len];omega) g13 g14 g15 g12 hn (by omega)
   rw[zp (by rw[h.len];omega),h.len,hfm,List.drop_eq_nil_of_le (by rw[h.len];omega),show 8 - (t.length+1 - (22+8*0))=8 by omega]at c
   exact c
 ·rw[z0f hnx (by omega),<- zg (by omega)]
  refine .on (by rw[hj,if_pos (by rw[h.len];omega)]) (f:=m.f) (l:=m.l) (oR:=m.oR) (oP:=m.oP) rfl ?_ (fun _ h=>h) (fun _ h=>h)
  rw[hf,hl,hR,hP]
  have c:=Cx.f3 (kn:=kn) (t:=t++[b]) (by rw[h.len];omega) (by rw[h.len];omega) g13 g14 g15 g12
  rw[h.len,show 22 - (t.length+1)=22 - t.length - 1 by omega,hfm]at c
  exact c
theorem zlL{kn:Bool}{t:List Nat}(h:Cm kn t b m)(j c:Nat)(hnx:m.nx = .num (8 - (t.length - (22+8*j))) (zF (t.drop (22+8*j))) (.data (c - j) (.fixd (zx c))))(hf:m.f=fdF t)(hl:m.l=z0p (t.drop 22))(hR:m.oR=[zx c])(hP:m.oP=[])(h1:22+8*j<=t.length)(h2:t.length < 22+8*j+8)(h13:zk t 13≠1)(h14:zk t 14=1)(h15:zk t 15=0)(h12:zk t 12=0)(hc:fdN t=c)(hjc:j < c):z3v kn (t++[b]) m (m.next b):=by
 have g13:zk (t++[b]) 13≠1:=by rw[zj (by omega)];exact h13
 have g14:zk (t++[b]) 14=1:=by rw[zj (by omega)];exact h14
 have g15:zk (t++[b]) 15=0:=by rw[zj (by omega)];exact h15
 have g12:zk (t++[b]) 12=0:=by rw[zj (by omega)];exact h12
 have hfm:=zaC (b:=b) (t:=t) (by omega)
 have hnm:fdN (t++[b])=c:=by rw[zgN (by omega),hc]
 have hj:=zhy (kn:=kn) (t:=t++[b]) (by rw[h.len];omega) g13 g14 g15
 rw[h.len,if_neg (by omega),hnm]at hj
 by_cases e:t.length=22+8*j+7
 ·rw[show 8 - (t.length - (22+8*j))=1 by omega]at hnx
  rw[zC hnx,<- zg (by omega)]
  have hl':m.l++[zF ((t++[b]).drop (22+8*j))%256]=z0p ((t++[b]).drop 22):=by
   rw[z5E h.ht' (by rw[h.len];omega),hl,z4b (a:=22) (n:=j) (by omega)]
  have hrun:z1W (.data (c - j) (.fixd (zx c))) (zF ((t++[b]).drop (22+8*j))) m=PM.data { m with l:=z0p ((t++[b]).drop 22) } (c - j - 1) (.fixd (zx c)):=by
   rw[<- hl'];rfl
  rw[hrun]
  by_cases q0:c - j - 1=0
  ·have:PM.data { m with l:=z0p ((t++[b]).drop 22) } (c - j - 1) (.fixd (zx c))=z1f (.fixd (zx c)) { m with l:=z0p ((t++[b]).drop 22) }:=by unfold PM.data;rw[if_pos q0]
   rw[this]
   exact zhW (by rw[hj,if_pos (by omega)]) (by rw[hnm]) (by rw[hf,hfm]) (l:=z0p ((t++[b]).drop 22)) rfl (by rw[hR];simp) _ (by rw[<- hR])
  ·refine .on (by rw[hj,if_neg (by omega)]) (nx := .num 8 0 (.data (c - j - 1) (.fixd (zx c)))) (f:=m.f) (l:=z0p ((t++[b]).drop 22)) (oR:=m.oR) (oP:=m.oP) (by unfold PM.data;rw[if_neg q0];rfl) ?_ (fun _ h=>h) (fun _ h=>h)
   rw[hf,hR,hP]
   have cx:=Cx.f4 (kn:=kn) (t:=t++[b]) (j+1) c (by rw[h.len];omega) (by rw[h.len];omega) g13 g14 g15 g12 hnm (by omega)
   rw[zp (by rw[h.len];omega),h.len,hfm,show 8 - (t.length+1 - (22+8*(j+1)))=8 by omega,show c - (j+1)=c - j - 1 by omega]at cx
   exact cx
 ·rw[z0f hnx (by omega),<- zg (by omega)]
  refine .on (by rw[hj,if_neg (by omega)]) (f:=m.f) (l:=m.l) (oR:=m.oR) (oP:=m.oP) rfl ?_ (fun _ h=>h) (fun _ h=>h)
  rw[hf,hl,hR,hP]
  have cx:=Cx.f4 (kn:=kn) (t:=t++[b]) j c (by rw[h.len];omega) (by rw[h.len];omega) g13 g14 g15 g12 hnm hjc
  rw[h.len,show 8 - (t.length+1 - (22+8*j))=8 - (t.length - (22+8*j)) - 1 by omega,hfm,z4e (by omega) (by omega)]at cx
  exact cx
theorem zil{kn:Bool}{t:List Nat}(h:Cm kn t b m)(hc:Cx kn t m.nx m.f m.l m.oR m.oP):z3v kn (t++[b]) m (m.next b):=by
 generalize hnx:m.nx=nx at hc
 generalize hf:m.f=f at hc
 generalize hl:m.l=l at hc
 generalize hR:m.oR=oR at hc
 generalize hP:m.oP=oP at hc
 cases hc with
 | s0 h0=>exact zlo h hnx hf hl hR hP h0
 | s1 h1 h2=>exact zlD h hnx hf hl hR hP h1 h2
 | s2 h1 h2=>exact zlY h hnx hf hl hR hP h1 h2
 | x1 h1 h2 h3=>exact zmm h hnx hf hl hR hP h1 h2 h3
 | x2 h1 h2=>exact zlw h hnx hf hl hR hP h1 h2
 | x3 h1 h2=>exact zlN h hnx hf hl hR hP h1 h2
 | x4 h1 h2=>exact zlI h hnx hf hl hR hP h1 h2
 | c1 a h1 h2 h3=>exact zli h a hnx hf hl hR hP h1 h2 h3
 | c2 a j c h1 h2 h3 h4 h5=>exact zlU h a j c hnx hf hl hR hP h1 h2 h3 h4 h5
 | c3 a c h1 h2 h3 h4=>exact zlR h a c hnx hf hl hR hP h1 h2 h3 h4
 | r1 h1 h2=>exact zlX h hnx hf hl hR hP h1 h2
 | r2 h1 h2 h3 h4=>exact zlO h hnx hf hl hR hP h1 h2 h3 h4
 | l1 h1 h2 h3 h4 h5 h6=>exact zm3 h hnx hf hl hR hP h1 h2 h3 h4 h5
 | f1 h1 h2 h3 h4 h5=>exact zlS h hnx hf hl hR hP h1 h2 h3 h4 h5
 | f2 h1 h2 h3 h4 h5=>exact zlh h hnx hf hl hR hP h1 h2 h3 h4 h5
 | f3 h1 h2 h3 h4 h5 h6=>exact zlG h hnx hf hl hR hP h1 h2 h3 h4 h5 h6
 | f4 j c h1 h2 h3 h4 h5 h6 h7 h8=>exact zlL h j c hnx hf hl hR hP h1 h2 h3 h4 h5 h6 h7 h8
theorem z2l:∀ {re:Nat->Nat},k∉ks->zL re ks b k=re k:=by
 induction ks with
 | nil=>intro re _;rfl
 | cons j ks ih =>
   intro re h
   have h1:k≠j:=fun e=>h (by rw[e];exact List.mem_cons_self ..)
   have h2:k∉ks:=fun e=>h (List.mem_cons_of_mem _ e)
   show zL (zcR re j _) ks b k=_
   rw[ih h2]
   exact if_neg h1
theorem z4f:∀ {re:Nat->Nat},ks.Nodup->k∈ks->zL re ks b k=z2x (szK (k:Nat)) (z08 (k:Nat)) (re k) b:=by
 induction ks with
 | nil=>intro re _ h;cases h
 | cons j ks ih =>
   intro re hn h
   have hn':=List.nodup_cons.1 hn
   show zL (zcR re j (z2x (szK (j:Nat)) (z08 (j:Nat)) (re j) b)) ks b k=_
   by_cases e:k=j
   ·subst e
    rw[z2l hn'.1]
    exact if_pos rfl
   ·rw[ih hn'.2 (by rcases List.mem_cons.1 h with h | h;exact absurd h e;exact h)]
    rw[show zcR re j (z2x (szK (j:Nat)) (z08 (j:Nat)) (re j) b) k=re k from if_neg e]
def KdP(ks:List Nat):Prop:=∀k∈ks,1<=k/\k<=5
structure KK(m:PM):Prop where
 r:KdP m.oR
 p:KdP m.oP
 lr:m.oR.length<=2
 lp:m.oP.length<=2
theorem Cx.kinds{kn:Bool}{t:List Nat}{nx:Nx}{f:Hd}{l oP:List Nat}(h:Cx kn t nx f l oR oP):(oR=[2,3]\/oR=[]\/oR=[2]\/oR=[3])/\(oP=[1,4]\/oP=[1]\/oP=[])/\nx ≠ .none:=by
 cases h with
 | f4 j c h1 h2 h3 h4 h5 h6 h7 h8 =>
   refine⟨?_,by simp,by simp⟩
   unfold zx
   split<;>simp
 | _=>exact⟨by simp,by simp,by simp⟩
structure Dy(kn:Bool)(x:List Nat)(m:PM):Prop where
 raw:m.raw = .stuffed
 last:m.last=zl x
 alike:m.alike=(zq x).2
 run5:(zq x).2<=5
 stuffs:m.stuffs=x.length - (zo x).length
 wr:m.wrong=false
 cx:Cx kn (zo x) m.nx m.f m.l m.oR m.oP
 sR:∀k∈m.oR,m.re k=cN k x
 sP:∀k∈m.oP,m.re k=cN k (zo x)
 s5:m.re 5=zD 5
def z60(E:Nat)(A:Bool)(s:FxS):Nat:=if s.last then 0 else if s.out.length=0 then(if A then E else 0) else(s.out.length - 1)%E+1
def fxS(h y:List Nat):FxS:=fgS 4 true (zl h) y
structure Fx(h y:List Nat)(m:PM):Prop where
 raw:m.raw = .spaced
 every:m.every=4
 since:m.since=z60 4 true (fxS h y)
 last:m.last=z1l (zl h) y
 f:m.f=fdF (zo h)
 l:m.l=fdD (zo h)
 oP:m.oP=[zx (fdN (zo h))]
 re:m.re (zx (fdN (zo h)))=cN (zx (fdN (zo h))) (h++(fxS h y).out)
 ok:(fxS h y).ok=true
 len:y.length < fdM h
 nxt:((fxS h y).out.length < 4/\m.nx = .num (4 - (fxS h y).out.length) (zF (fxS h y).out) (.check (zF (zw (h.length - (zo h).length))) (.sumFd (zx (fdN (zo h)))))/\m.wrong=false) \/
  (4<=(fxS h y).out.length/\m.nx = .num (szK (zx (fdN (zo h)):Nat)+4 - (fxS h y).out.length) (zF ((fxS h y).out.drop 4)) (.check (cN (zx (fdN (zo h))) (h++(fxS h y).out.take 4)) .tail)/\m.wrong = !decide ((fxS h y).out.take 4=zw (h.length - (zo h).length)))
structure Xs(h y:List Nat)(m:PM):Prop where
 raw:m.raw = .bare
 f:m.f={ hdR (zo h)with K:=3 }
 f12:zk (zo h) 12=0
 l:m.l=[]
 stuffs:m.stuffs=h.length - 17
 wr:m.wrong=false
 len:y.length<=3
 nx:m.nx = .must (zy.drop y.length) .dataPart
 s4:m.re 4=cN 4 (zo h)
 s5:m.re 5=zD 5
structure Tl(ok:Bool)(f:Hd)(l t:List Nat)(m:PM):Prop where
 raw:m.raw = .bare
 f:m.f=f
 l:m.l=l
 wr:m.wrong = !ok
 len:t.length<=8
 nx:(t.length=0/\m.nx = .must [1] .delimited)\/(t.length=1/\m.nx = .slot)\/(t.length=2/\m.nx = .behind)\/(3<=t.length/\m.nx = .must (ones (9 - t.length)) .done/\ok=true)
structure Xe(h y z:List Nat)(m:PM):Prop where
 raw:m.raw = .bare
 f:m.f=xlF (zo h) (xo y)
 l:m.l=xlD (xo y)
 wr:m.wrong = !z3D h y
 len:z.length<=3
 nx:m.nx = .must (z0u.drop z.length) .tail
theorem zf4(h5:(zq x).2<=5)(h:¬((zq x).2=5/\b=zl x)):(zq (x++[b])).2<=5:=by
 rw[z07]
 unfold z1I
 by_cases e:b=(zq x).1
 ·rw[if_pos e]
  have:¬(zq x).2=5:=fun q=>h ⟨q,e⟩
  show(zq x).2+1<=5
  omega
 ·rw[if_neg e];show 1<=5;omega
theorem zb2(hl:m.last=zl x)(ha:m.alike=(zq x).2):(m.add b).last=zl (x++[b])/\(m.add b).alike=(zq (x++[b])).2:=by
 refine⟨by rw[z0I];rfl,?_⟩
 show(if b=m.last then m.alike+1 else 1)=_
 rw[z07,hl,ha]
 unfold z1I zl
 by_cases e:b=(zq x).1
 ·rw[if_pos e,if_pos e]
 ·rw[if_neg e,if_neg e]
theorem zkN {kn:Bool} (h:Dy kn x m) (hkn:m.kn=kn) (hx:∀z∈x,z<=1) (hb:b<=1) (hlen:x.length+1<=65536) (hf:full x=false) :
    ∃m1:PM,m.step b=m1.next b/\z3v kn (zo x++[b]) m1 (m1.next b)/\m1.raw = .stuffed/\m1.last=zl (x++[b])/\m1.alike=(zq (x++[b])).2/\(zq (x++[b])).2<=5/\m1.stuffs=(x++[b]).length - (zo x++[b]).length/\m1.wrong=false /\
     m1.oR=m.oR/\m1.oP=m.oP/\(∀k∈m.oR,m1.re k=cN k (x++[b]))/\(∀k∈m.oP,m1.re k=cN k (zo x++[b]))/\m1.re 5=zD 5/\m1.kn=kn/\m1.is=m.is:=by
 have h5:¬m.alike=5:=by
  rw[h.alike]
  intro e
  unfold full at hf
  rw[e]at hf
  simp at hf
 obtain⟨kR,kP,_⟩:=h.cx.kinds
 have nR:m.oR.Nodup:=by rcases kR with e | e | e | e<;>rw[e]<;>decide
 have nP:m.oP.Nodup:=by rcases kP with e | e | e<;>rw[e]<;>decide
 have dis:∀k∈m.oR,k∉m.oP:=by
  rcases kR with e | e | e | e<;>rcases kP with e' | e' | e'<;>rw[e,e']<;>decide
 have n5:5∉m.oR/\5∉m.oP:=by
  rcases kR with e | e | e | e<;>rcases kP with e' | e' | e'<;>rw[e,e']<;>decide
 obtain⟨a1,a2⟩:=zb2 (b:=b) h.last h.alike
 have sP':∀k∈m.oP,zL (zL m.re m.oR b) m.oP b k=cN k (zo x++[b]):=by
  intro k hk
  rw[z4f nP hk,z2l (fun hr=>dis k hr hk),h.sP k hk,z4h]
 have sR':∀k∈m.oR,zL (zL m.re m.oR b) m.oP b k=cN k (x++[b]):=by
  intro k hk
  rw[z2l (dis k hk),z4f nR hk,h.sR k hk,z4h]
 have hst:m.step b=PM.next { m.add b with re:=zL (zL m.re m.oR b) m.oP b } b:=by
  unfold PM.step
  rw[h.raw]
  exact if_neg h5
 have htl:=z1H x
 refine⟨{ m.add b with re:=zL (zL m.re m.oR b) m.oP b },hst,zil ⟨hkn,h.wr,z3b hx,hb,sP',by omega⟩ h.cx,h.raw,a1,a2,zf4 h.run5 (fun e=>h5 (by rw[h.alike];exact e.1)),?_,h.wr,rfl,rfl,sR',sP',?_,hkn,rfl⟩
 ·show m.stuffs=_
  rw[h.stuffs,List.length_append,List.length_append]
  simp
 ·show zL (zL m.re m.oR b) m.oP b 5=_
  rw[z2l n5.2,z2l n5.1,h.s5]
theorem zhj{kn:Bool}(h:Dy kn x m)(hf:full x=true)(hq:b≠zl x):Dy kn (x++[b]) (m.step b)/\(m.step b).is=m.is/\(m.step b).kn=m.kn/\(m.step b).oR=m.oR/\(m.step b).oP=m.oP:=by
 have h5:m.alike=5:=by
  have:5<=(zq x).2:=by unfold full at hf;simpa using hf
  rw[h.alike]
  have:=h.run5
  omega
 have hst:m.step b={ m.add b with re:=zL m.re m.oR b,stuffs:=m.stuffs+1 }:=by
  unfold PM.step
  rw[h.raw]
  show(if m.alike=5 then _ else _)=_
  rw[if_pos h5,if_neg (by rw[h.last];exact hq)]
 obtain⟨kR,kP,_⟩:=h.cx.kinds
 have nR:m.oR.Nodup:=by rcases kR with e | e | e | e<;>rw[e]<;>decide
 have dis:∀k∈m.oP,k∉m.oR:=by
  rcases kR with e | e | e | e<;>rcases kP with e' | e' | e'<;>rw[e,e']<;>decide
 have n5:5∉m.oR:=by
  rcases kR with e | e | e | e<;>rw[e]<;>decide
 obtain⟨a1,a2⟩:=zb2 (b:=b) h.last h.alike
 have ht:zo (x++[b])=zo x:=by rw[z0o,hf,if_pos rfl]
 have htl:=z1H x
 rw[hst]
 refine⟨⟨h.raw,a1,a2,zf4 h.run5 (fun e=>hq e.2),?_,h.wr,by rw[ht];exact h.cx,fun k hk => ?_,fun k hk => ?_,?_⟩,rfl,rfl,rfl,rfl⟩
 ·show m.stuffs+1=_
  rw[ht,h.stuffs,List.length_append,List.length_singleton]
  omega
 ·show zL m.re m.oR b k=_
  rw[z4f nR hk,h.sR k hk,z4h]
 ·show zL m.re m.oR b k=_
  rw[ht,z2l (dis k hk),h.sP k hk]
 ·show zL m.re m.oR b 5=_
  rw[z2l n5,h.s5]
theorem zkK{kn:Bool}(h:Dy kn x m)(hf:full x=true)(hq:b=zl x):m.step b=m.bad 4:=by
 have h5:m.alike=5:=by
  have:5<=(zq x).2:=by unfold full at hf;simpa using hf
  rw[h.alike]
  have:=h.run5
  omega
 unfold PM.step
 rw[h.raw]
 show(if m.alike=5 then _ else _)=_
 rw[if_pos h5,if_pos (by rw[h.last];exact hq)]
theorem z9J{A:Bool}{p:Nat}(y:List Nat):(fgS E A p y).last=true->z2j E A (fgS E A p y).out.length=true/\(fgS E A p y).due=false:=by
 refine zB (P:=fun y=>(fgS E A p y).last=true->z2j E A (fgS E A p y).out.length=true/\(fgS E A p y).due=false) (fun h=>by cases h) (fun y b _ h => ?_) y
 have hd:=z5s E A p y
 rw[z0w]at h ⊢
 unfold z0y at h ⊢
 simp only at h ⊢
 rw[h]at hd ⊢
 have:=hd.symm
 rw[Bool.and_eq_true]at this
 exact⟨by simpa using this.2,rfl⟩
theorem z7W(hE:E=4\/E=8)(A:Bool)(p:Nat)(y:List Nat):z60 E A (fgS E A p y)=E↔(fgS E A p y).due=true:=by
 have hd:=z5s E A p y
 rw[hd]
 unfold z60 z2j
 generalize (fgS E A p y).out.length=o
 generalize (fgS E A p y).last=ls
 cases ls with
 | true=>simp;omega
 | false =>
   by_cases h0:o=0
   ·subst h0
    cases A<;>simp<;>omega
   ·rcases hE with rfl | rfl<;>simp[h0]<;>omega
theorem z6L(hE:E=4\/E=8)(A:Bool)(p:Nat)(y:List Nat)(b:Nat):z60 E A (fgS E A p (y++[b]))=if(fgS E A p y).due then 0 else z60 E A (fgS E A p y)+1:=by
 have hd:=z5s E A p y
 have hl:=z9J (E:=E) (A:=A) (p:=p) y
 rw[z0w]
 unfold z0y z60
 cases hq:(fgS E A p y).due with
 | true=>simp
 | false =>
   simp only[Bool.false_eq_true,if_false,List.length_append,List.length_singleton]
   rw[hq]at hd
   unfold z2j at hd hl
   generalize (fgS E A p y).out.length=o at *
   cases hls:(fgS E A p y).last with
   | true =>
     rw[hls]at hl
     have h2:=(hl rfl).1
     rw[if_pos rfl,if_neg (by omega)]
     by_cases h0:o=0
     ·subst h0;simp
     ·rw[if_neg h0]at h2
      have:=of_decide_eq_true h2
      rw[show o+1 - 1=o by omega,this]
   | false =>
     rw[hls]at hd
     simp only[Bool.not_false,Bool.true_and]at hd
     rw[if_neg (by omega),if_neg (by simp)]
     by_cases h0:o=0
     ·subst h0
      rw[if_pos rfl]at hd
      rw[<- hd]
      simp
     ·rw[if_neg h0]at hd
      have:=of_decide_eq_false hd.symm
      rw[if_neg h0]
      rcases hE with rfl | rfl<;>omega
theorem z5D(hE:E=4\/E=8)(A:Bool)(p:Nat)(y:List Nat):y.length=szF E A (fgS E A p y).out.length+(if(fgS E A p y).last then 1 else 0):=by
 refine zB (P:=fun y=>y.length=szF E A (fgS E A p y).out.length+(if(fgS E A p y).last then 1 else 0)) rfl (fun y b ih => ?_) y
 have hd:=z5s E A p y
 have hl:=z9J (E:=E) (A:=A) (p:=p) y
 rw[List.length_append,List.length_singleton,z0w]
 unfold z0y
 simp only
 cases hq:(fgS E A p y).due with
 | true =>
   rw[hq]at hd
   have:(fgS E A p y).last=false:=by
    have:=hd.symm
    rw[Bool.and_eq_true,Bool.not_eq_true']at this
    exact this.1
   rw[this]at ih
   simp at ih ⊢
   exact ih
 | false =>
   simp only[Bool.false_eq_true,if_false,List.length_append,List.length_singleton,Nat.add_zero]
   rw[hq]at hd
   unfold z2j at hd hl
   generalize (fgS E A p y).out.length=o at *
   unfold szF at ih ⊢
   rw[if_neg (by omega:¬o+1=0),show o+1 - 1=o by omega]
   cases hls:(fgS E A p y).last with
   | true =>
     rw[hls]at hl ih
     have h2:=(hl rfl).1
     rw[if_pos rfl]at ih
     by_cases h0:o=0
     ·subst h0
      rw[if_pos rfl]at h2
      subst h2
      rw[if_pos rfl]at ih
      simp
      omega
     ·rw[if_neg h0]at h2 ih
      have:=of_decide_eq_true h2
      rcases hE with rfl | rfl<;>omega
   | false =>
     rw[hls]at hd ih
     simp only[Bool.not_false,Bool.true_and]at hd
     rw[if_neg (by simp:¬(false=true))]at ih
     by_cases h0:o=0
     ·subst h0
      rw[if_pos rfl]at hd ih
      rw[<- hd,ih]
      rcases hE with rfl | rfl<;>rfl
     ·rw[if_neg h0]at hd ih
      have:=of_decide_eq_false hd.symm
      rcases hE with rfl | rfl<;>omega
theorem z6k(hr:m.raw = .spaced)(hd:m.since=m.every)(hq:b=m.last):m.step b=m.bad 4:=by
 unfold PM.step
 rw[hr]
 show(if m.since=m.every then _ else _)=_
 rw[if_pos hd,if_pos hq]
theorem z6i(hr:m.raw = .spaced)(hd:m.since=m.every)(hq:b≠m.last):m.step b={ m.add b with since:=0 }:=by
 unfold PM.step
 rw[hr]
 show(if m.since=m.every then _ else _)=_
 rw[if_pos hd,if_neg hq]
theorem z6A(hr:m.raw = .spaced)(hd:m.since≠m.every):m.step b=PM.next { m.add b with since:=m.since+1,re:=zL m.re m.oP b } b:=by
 unfold PM.step
 rw[hr]
 exact if_neg hd
theorem zeT{l l':List Nat}(h:∀x∈l,x<=1)(h':∀x∈l',x<=1)(hl:l.length=l'.length):(zF l=zF l')↔l=l':=by
 constructor
 ·intro e
  have h1:=z6s l h
  have h2:=z6s l' h'
  rw[<- h1,<- h2,e,hl]
 ·rintro rfl;rfl
theorem zkY{n:Nat}(hn:n=zx (fdN (zo h))):szK (n:Nat)=(if 16 < fdN (zo h)then 21 else 17)/\fdM h=szF 4 true (szK (n:Nat)+4):=by
 subst hn
 unfold zx fdM
 split
 ·exact⟨rfl,rfl⟩
 ·exact⟨rfl,rfl⟩
theorem zjc (F:Fx h y m) (hh:∀z∈h,z<=1) (hy:∀z∈y,z<=1) (hb:b<=1) (hlen:h.length+y.length+1<=65536) :
    ((fxS h (y++[b])).ok=false->m.step b=m.bad 4) /\
    ((fxS h (y++[b])).ok=true->(y++[b]).length=fdM h->Tl (z4v h (y++[b])) (fdF (zo h)) (fdD (zo h)) [] (m.step b)/\(m.step b).is=m.is/\(m.step b).kn=m.kn/\(m.step b).oR=m.oR/\(m.step b).oP=m.oP) /\
    ((fxS h (y++[b])).ok=true->(y++[b]).length≠fdM h->Fx h (y++[b]) (m.step b)/\(m.step b).is=m.is/\(m.step b).kn=m.kn/\(m.step b).oR=m.oR/\(m.step b).oP=m.oP):=by
 have hprev:=z7a 4 true (zl h) y
 have hsd:=z7W (E:=4) (.inl rfl) true (zl h) y
 have hss:=z6L (E:=4) (.inl rfl) true (zl h) y b
 have hfl:=z5D (E:=4) (.inl rfl) true (zl h) (y++[b])
 have hob:=z9O (E:=4) (A:=true) (p:=zl h) hy
 obtain⟨kd,hkd⟩:∃kd,kd=zx (fdN (zo h)):=⟨_,rfl⟩
 have hM:(szK (kd:Nat)=21/\fdM h=32)\/(szK (kd:Nat)=17/\fdM h=27):=by
  obtain⟨z1,z2⟩:=zkY hkd
  rw[z2,z1]
  by_cases q:16 < fdN (zo h)
  ·rw[if_pos q];exact .inl ⟨rfl,rfl⟩
  ·rw[if_neg q];exact .inr ⟨rfl,rfl⟩
 obtain⟨st,hst⟩:∃st,st=h.length - (zo h).length:=⟨_,rfl⟩
 have Fre:=F.re
 have Fnxt:=F.nxt
 have FoP:=F.oP
 rw[<- hkd]at Fre Fnxt FoP
 rw[<- hst]at Fnxt
 have hty:=z0B st
 have htl4:=z05 st
 have hokl:(fxS h y).ok=true:=F.ok
 have hS:fxS h (y++[b])=z0y 4 (fxS h y) b:=z0w 4 true (zl h) y b
 have hlastq:z1l (zl h) (y++[b])=b:=z1M _ _ _
 have hlen1:(y++[b]).length=y.length+1:=by simp
 unfold z4v fdO
 rw[show fgS 4 true (zl h) (y++[b])=fxS h (y++[b])from rfl]at hfl hss ⊢
 rw[show fgS 4 true (zl h) y=fxS h y from rfl]at hprev hsd hss hob
 rw[<- hkd,<- hst]
 have hevery:=F.every
 have hsince:=F.since
 have hlast:=F.last
 rw[<- hprev]at hlast
 cases hdue:(fxS h y).due with
 | true =>
   have hsn:m.since=m.every:=by rw[hsince,hevery];exact hsd.2 hdue
   have hout:(fxS h (y++[b])).out=(fxS h y).out:=by rw[hS];unfold z0y;simp only;rw[hdue,if_pos rfl]
   have hls:(fxS h (y++[b])).last=true:=by rw[hS];unfold z0y;simp only;exact hdue
   have hok:(fxS h (y++[b])).ok = !(b==(fxS h y).prev):=by rw[hS];unfold z0y;simp only;rw[hokl,hdue];simp
   have hlt:¬(y++[b]).length=fdM h:=by
    rw[hls,if_pos rfl,hout]at hfl
    have hd:=z5s 4 true (zl h) y
    rw[show fgS 4 true (zl h) y=fxS h y from rfl,hdue]at hd
    have hd2:=hd.symm
    rw[Bool.and_eq_true]at hd2
    have hd3:=hd2.2
    unfold z2j at hd3
    rw[hfl]
    unfold szF
    generalize (fxS h y).out.length=o at *
    by_cases h0:o=0
    ·rw[if_pos h0];omega
    ·rw[if_neg h0]at hd3 ⊢
     have:=of_decide_eq_true hd3
     rw[show true.toNat=1 from rfl]
     omega
   refine⟨fun e=>z6k F.raw hsn ?_,fun _ e=>absurd e hlt,fun e _ => ?_⟩
   ·rw[hok]at e
    rw[hlast]
    simpa using e
   ·have hq:b≠m.last:=by
     rw[hok]at e
     rw[hlast]
     simpa using e
    rw[z6i F.raw hsn hq]
    refine⟨⟨F.raw,F.every,?_,?_,F.f,F.l,F.oP,?_,e,?_,?_⟩,rfl,rfl,rfl,rfl⟩
    ·show 0=_
     rw[hss,hdue,if_pos rfl]
    ·show b=_
     rw[hlastq]
    ·rw[hout];exact F.re
    ·have:=F.len;omega
    ·rw[hout];exact F.nxt
 | false =>
   have hsn:m.since≠m.every:=by rw[hsince,hevery];intro e;rw[hsd.1 e]at hdue;cases hdue
   have hout:(fxS h (y++[b])).out=(fxS h y).out++[b]:=by rw[hS];unfold z0y;simp only;rw[hdue];rfl
   have hls:(fxS h (y++[b])).last=false:=by rw[hS];unfold z0y;simp only;exact hdue
   have hok:(fxS h (y++[b])).ok=true:=by rw[hS];unfold z0y;simp only;rw[hokl,hdue];simp
   rw[hls,if_neg (by simp),hout]at hfl
   have hre:zL m.re m.oP b kd=cN kd (h++((fxS h y).out++[b])):=by
    rw[FoP,<- List.append_assoc,z4h,<- Fre,z4f (by simp) (by simp)]
   rw[z6A F.raw hsn,hout]
   have htlh:(h++((fxS h y).out++[b])).length<=65536:=by
    have:=zeO 4 true (zl h) y
    rw[show fgS 4 true (zl h) y=fxS h y from rfl]at this
    simp
    omega
   have hFlen:=F.len
   have hob':∀z∈(fxS h y).out++[b],z<=1:=by
    intro z hz
    rcases List.mem_append.1 hz with q | q
    ·exact hob z q
    ·have:=List.mem_singleton.1 q;omega
   generalize hO:(fxS h y).out=O at *
   have hOl:(O++[b]).length=O.length+1:=by simp
   rw[hOl]at hfl
   have hsz:szK (kd:Nat)=21\/szK (kd:Nat)=17:=by rcases hM with q | q;exact .inl q.1;exact .inr q.1
   have hsf:szF 4 true (O.length+1)=O.length+1+O.length / 4+1:=by unfold szF;rw[if_neg (by omega)];rfl
   rw[hsf]at hfl
   have hOlt:O.length+1<=szK (kd:Nat)+4/\((y++[b]).length=fdM h↔O.length+1=szK (kd:Nat)+4):=by
    omega
   rcases Fnxt with ⟨n1,n2,n3⟩ | ⟨n1,n2,n3⟩
   ·refine⟨fun e=>(by rw[hok]at e;cases e),fun _ e => ?_,fun _ e => ?_⟩
    ·have:=hOlt.2.1 e;rcases hsz with q | q<;>omega
    ·by_cases q3:O.length=3
     ·have hnx:m.nx = .num 1 (zF O) (.check (zF (zw st)) (.sumFd kd)):=by rw[n2,q3]
      have hrun:PM.next { m.add b with since:=m.since+1,re:=zL m.re m.oP b } b=PM.num { m.add b with since:=m.since+1,re:=zL m.re m.oP b,wrong:=m.wrong||zF O*2+b != zF (zw st) } (szK (kd:Nat)) (.check (zL m.re m.oP b kd) .tail):=by
       rw[zC (m:={ m.add b with since:=m.since+1,re:=zL m.re m.oP b }) hnx];rfl
      rw[hrun]
      refine⟨⟨F.raw,F.every,?_,by rw[hlastq];rfl,F.f,F.l,F.oP,by rw[<- hkd,hout];exact hre,hok,by rw[hlen1];rw[hlen1]at e;omega,.inr ?_⟩,rfl,rfl,rfl,rfl⟩
      ·show m.since+1=_
       rw[hss,hdue,hsince];rfl
      ·rw[hout,<- hkd,<- hst]
       refine⟨by omega,?_,?_⟩
       ·show Nx.num _ 0 _=_
        rw[hre,List.drop_eq_nil_of_le (by omega),List.take_of_length_le (by omega),hOl,show szK (kd:Nat)+4 - (O.length+1)=szK (kd:Nat) by omega]
        rfl
       ·show(m.wrong||zF O*2+b != zF (zw st))=_
        rw[n3,Bool.false_or,<- z0S,List.take_of_length_le (by omega)]
        have:=zeT hob' hty (by omega)
        by_cases q:O++[b]=zw st
        ·rw[decide_eq_true q,this.2 q];simp
        ·rw[decide_eq_false q]
         have:zF (O++[b])≠zF (zw st):=fun e=>q (this.1 e)
         simp[this]
     ·have hrun:PM.next { m.add b with since:=m.since+1,re:=zL m.re m.oP b } b={ m.add b with since:=m.since+1,re:=zL m.re m.oP b,nx := .num (4 - O.length - 1) (zF O*2+b) (.check (zF (zw st)) (.sumFd kd)) } :=
       z0f (m:={ m.add b with since:=m.since+1,re:=zL m.re m.oP b }) n2 (by omega) b
      rw[hrun]
      refine⟨⟨F.raw,F.every,?_,by rw[hlastq];rfl,F.f,F.l,F.oP,by rw[<- hkd,hout];exact hre,hok,by rw[hlen1];rw[hlen1]at e;omega,.inl ?_⟩,rfl,rfl,rfl,rfl⟩
      ·show m.since+1=_
       rw[hss,hdue,hsince];rfl
      ·rw[hout,<- hkd,<- hst]
       exact⟨by omega,by rw[z0S,hOl,show 4 - (O.length+1)=4 - O.length - 1 by omega],n3⟩
   ·by_cases q3:O.length+1=szK (kd:Nat)+4
    ·refine⟨fun e=>(by rw[hok]at e;cases e),fun _ _ => ?_,fun _ e=>absurd (hOlt.2.2 q3) e⟩
     have hnx:m.nx = .num 1 (zF (O.drop 4)) (.check (cN kd (h++O.take 4)) .tail):=by rw[n2,show szK (kd:Nat)+4 - O.length=1 by omega]
     have hrun:PM.next { m.add b with since:=m.since+1,re:=zL m.re m.oP b } b=PM.must { m.add b with since:=m.since+1,re:=zL m.re m.oP b,wrong:=m.wrong||zF (O.drop 4)*2+b != cN kd (h++O.take 4),raw := .bare } [1] .delimited:=by
      rw[zC (m:={ m.add b with since:=m.since+1,re:=zL m.re m.oP b }) hnx];rfl
     rw[hrun]
     refine⟨⟨rfl,F.f,F.l,?_,by simp,.inl ⟨rfl,rfl⟩⟩,rfl,rfl,rfl,rfl⟩
     show(m.wrong||zF (O.drop 4)*2+b != cN kd (h++O.take 4))=_
     have hch:chk (h++(O++[b]))=true:=z0g (fun z hz=>by
      rcases List.mem_append.1 hz with q | q
      ·exact hh z q
      ·exact hob' z q) htlh
     have hdl:(h++(O++[b])).length=h.length+(szK (kd:Nat)+4):=by rw[List.length_append,hOl,q3]
     have hfit:z1F kd (h++(O++[b]))=decide (zF ((O++[b]).drop 4)=cN kd (h++O.take 4)):=by
      unfold z1F
      rw[hch,hdl,show h.length+(szK (kd:Nat)+4) - szK (kd:Nat)=h.length+4 by omega]
      rw[show(h++(O++[b])).drop (h.length+4)=(O++[b]).drop 4 by rw[List.drop_append];simp[show h.length+4 - h.length=4 by omega]]
      rw[show(h++(O++[b])).take (h.length+4)=h++O.take 4 by rw[List.take_append,List.take_of_length_le (by omega),show h.length+4 - h.length=4 by omega,z0Q n1]]
      rw[decide_eq_true (show szK (kd:Nat)≠0 by rcases hsz with q | q<;>omega),decide_eq_true (show szK (kd:Nat)<=h.length+(szK (kd:Nat)+4) by omega)]
      rfl
     rw[hfit,n3,<- z0S,<- z5j n1,z0Q n1]
     generalize zF ((O++[b]).drop 4)=A
     generalize cN kd (h++O.take 4)=B
     by_cases p1:O.take 4=zw st<;>by_cases p2:A=B<;>simp[p1,p2]
    ·refine⟨fun e=>(by rw[hok]at e;cases e),fun _ e=>absurd (hOlt.2.1 e) q3,fun _ e => ?_⟩
     have hrun:PM.next { m.add b with since:=m.since+1,re:=zL m.re m.oP b } b={ m.add b with since:=m.since+1,re:=zL m.re m.oP b,nx := .num (szK (kd:Nat)+4 - O.length - 1) (zF (O.drop 4)*2+b) (.check (cN kd (h++O.take 4)) .tail) } :=
      z0f (m:={ m.add b with since:=m.since+1,re:=zL m.re m.oP b }) n2 (by omega) b
     rw[hrun]
     refine⟨⟨F.raw,F.every,?_,by rw[hlastq];rfl,F.f,F.l,F.oP,by rw[<- hkd,hout];exact hre,hok,by rw[hlen1];rw[hlen1]at e;omega,.inr ?_⟩,rfl,rfl,rfl,rfl⟩
     ·show m.since+1=_
      rw[hss,hdue,hsince];rfl
     ·rw[hout,<- hkd,<- hst]
      refine⟨by omega,?_,by rw[z0Q n1];exact n3⟩
      rw[z5j n1,z0S,hOl,z0Q n1,show szK (kd:Nat)+4 - (O.length+1)=szK (kd:Nat)+4 - O.length - 1 by omega]
theorem zcY(hz:szK (k:Nat)≠0){A B:List Nat}(hA:∀z∈A,z<=1)(hB:∀z∈B,z<=1)(hl:B.length=szK (k:Nat))(h6:A.length+B.length<=65536):z1F (k:Nat) (A++B)=decide (zF B=cN k A):=by
 have hch:chk (A++B)=true:=z0g (fun z hz=>by
  rcases List.mem_append.1 hz with q | q
  ·exact hA z q
  ·exact hB z q) (by rw[List.length_append];exact h6)
 unfold z1F
 rw[hch,List.length_append,hl,show A.length+szK (k:Nat) - szK (k:Nat)=A.length by omega,List.drop_left,List.take_left,decide_eq_true hz,decide_eq_true (show szK (k:Nat)<=A.length+szK (k:Nat) by omega)]
 rfl
def xf0(tl:List Nat):Hd:={ hdR tl with K:=3 }
def xf1(tl O:List Nat):Hd:={ xf0 tl with D:=(zF (O.take 8):Nat) }
def xf2(tl O:List Nat):Hd:={ xf1 tl O with S:=zk O 8==1 }
def xf3(tl O:List Nat):Hd:={ xf2 tl O with V:=(zF ((O.drop 37).take 8):Nat) }
def xf4(tl O:List Nat):Hd:={ xf3 tl O with A:=(zF ((O.drop 45).take 32):Nat) }
theorem zkA(h:zk tl 12=0):xf4 tl O=xlF tl O:=by
 unfold xf4 xf3 xf2 xf1 xf0 hdR hdS idN xlF
 rw[h]
 rfl
theorem zbz(h:8<=O.length):xf1 tl (O++[b])=xf1 tl O:=by unfold xf1;rw[z0Q h]
theorem z1D(h:9<=O.length):xf2 tl (O++[b])=xf2 tl O:=by unfold xf2;rw[zbz (by omega),zj (by omega)]
theorem z7b(h:45<=O.length):xf3 tl (O++[b])=xf3 tl O:=by unfold xf3;rw[z1D (by omega),z0U (by omega)]
theorem z4P(h:77<=O.length):xf4 tl (O++[b])=xf4 tl O:=by unfold xf4;rw[z7b (by omega),z0U (by omega)]
theorem z3f(h:20<=O.length):xlN (O++[b])=xlN O:=by unfold xlN;rw[z0U (by omega)]
theorem z7I(O:List Nat):1<=xlN O:=by unfold xlN;omega
def okT(st:Nat)(O:List Nat):Bool:=decide ((O.drop 20).take 4=zw st)
def okP(st:Nat)(tl O:List Nat):Bool:=okT st O&&z1F 4 (tl++O.take 37)
theorem z6V(h:24<=O.length):okT st (O++[b])=okT st O:=by unfold okT;rw[z0U (by omega)]
theorem z1X(h:37<=O.length):okP st tl (O++[b])=okP st tl O:=by unfold okP;rw[z6V (by omega),z0Q h]
inductive Xc (st:Nat) (tl O:List Nat):Nx->Hd->List Nat->Bool->List Nat->Prop where
 | a1:O.length < 8->Xc st tl O (.num (8 - O.length) (zF O) .sdt) (xf0 tl) [] false [4,5]
 | a2:O.length=8->Xc st tl O (.num 1 0 (.flag .sec .xlSize)) (xf1 tl O) [] false [4,5]
 | a3:9<=O.length->O.length < 20->Xc st tl O (.num (20 - O.length) (zF (O.drop 9)) (.size .checked)) (xf2 tl O) [] false [4,5]
 | a4:20<=O.length->O.length < 24->Xc st tl O (.num (24 - O.length) (zF (O.drop 20)) (.check (zF (zw st)) (.headSum (xlN O)))) (xf2 tl O) [] false [4,5]
 | a5:24<=O.length->O.length < 37->Xc st tl O (.num (37 - O.length) (zF (O.drop 24)) (.check (cN 4 (tl++O.take 24)) (.vc (xlN O)))) (xf2 tl O) [] (!okT st O) [4,5]
 | a6:37<=O.length->O.length < 45->Xc st tl O (.num (45 - O.length) (zF (O.drop 37)) (.vcid (xlN O))) (xf2 tl O) [] (!okP st tl O) [5]
 | a7:45<=O.length->O.length < 77->Xc st tl O (.num (77 - O.length) (zF (O.drop 45)) (.af (xlN O))) (xf3 tl O) [] (!okP st tl O) [5]
 | a8 (j:Nat):77+8*j<=O.length->O.length < 77+8*j+8->j < xlN O->Xc st tl O (.num (8 - (O.length - (77+8*j))) (zF (O.drop (77+8*j))) (.data (xlN O - j) .sumXl)) (xf4 tl O) (z0p (O.drop 77)) (!okP st tl O) [5]
 | a9:77+8*xlN O<=O.length->O.length < 77+8*xlN O+32->Xc st tl O (.num (32 - (O.length - (77+8*xlN O))) (zF (O.drop (77+8*xlN O))) (.check (cN 5 (O.take (77+8*xlN O))) .trailed)) (xf4 tl O) (z0p ((O.drop 77).take (8*xlN O))) (!okP st tl O) [5]
def zmg(st:Nat)(tl O':List Nat)(m r:PM):Prop :=
 (O'.length=109+8*xlN O'/\r={ m with raw := .bare,nx := .must [0,1,1,0] .tail,f:=xf4 tl O',l:=z0p ((O'.drop 77).take (8*xlN O')),wrong := !(okP st tl O'&&z1F 5 O') }) \/
 (O'.length < 109+8*xlN O'/\∃nx f l w oP,r={ m with nx:=nx,f:=f,l:=l,wrong:=w,oP:=oP }/\Xc st tl O' nx f l w oP/\(∀k∈oP,k∈m.oP))
theorem ziU(hc:Xc st tl O m.nx m.f m.l m.wrong m.oP)(ht:∀z∈tl,z<=1)(hO:∀z∈O,z<=1)(hb:b<=1)(h4:4∈m.oP->m.re 4=cN 4 (tl++(O++[b])))(h5:m.re 5=cN 5 (O++[b]))(hst:m.stuffs=st)(h12:zk tl 12=0)(hlen:tl.length+O.length+1<=65536):zmg st tl (O++[b]) m (m.next b):=by
 have hl:(O++[b]).length=O.length+1:=by simp
 have hO':∀z∈O++[b],z<=1:=by
  intro z hz
  rcases List.mem_append.1 hz with q | q
  ·exact hO z q
  ·have:=List.mem_singleton.1 q;omega
 have hN:=z7I (O++[b])
 generalize hnx:m.nx=nx at hc
 generalize hf:m.f=f at hc
 generalize hld:m.l=l at hc
 generalize hw:m.wrong=wr at hc
 generalize hP:m.oP=oP at hc
 cases hc with
 | a1 h1 =>
   refine .inr ⟨by omega,?_⟩
   by_cases e:O.length=7
   ·rw[e]at hnx
    rw[zC hnx,<- z0S]
    have hv:zF (O++[b])%256=zF (O++[b]):=by
     have:=z5E (j:=0) hO' (by rw[hl];omega)
     simpa using this
    refine⟨.num 1 0 (.flag .sec .xlSize),{ m.f with D:=(zF (O++[b])%256:Nat) },m.l,m.wrong,m.oP,rfl,?_,fun _ h=>h⟩
    rw[hv,hf,hld,hw,hP]
    have c:=Xc.a2 (st:=st) (tl:=tl) (O:=O++[b]) (by omega)
    unfold xf1 at c
    rw[List.take_of_length_le (by omega)]at c
    exact c
   ·rw[z0f hnx (by omega),<- z0S]
    refine⟨_,m.f,m.l,m.wrong,m.oP,rfl,?_,fun _ h=>h⟩
    rw[hf,hld,hw,hP]
    have c:=Xc.a1 (st:=st) (tl:=tl) (O:=O++[b]) (by omega)
    rw[hl,show 8 - (O.length+1)=8 - O.length - 1 by omega]at c
    exact c
 | a2 h1 =>
   refine .inr ⟨by omega,?_⟩
   rw[zC hnx]
   refine⟨.num 11 0 (.size .checked),{ m.f with S:=0*2+b==1 },m.l,m.wrong,m.oP,rfl,?_,fun _ h=>h⟩
   rw[hf,hld,hw,hP,z7E hb (zk (O++[b]) 8) (z18 (by omega))]
   have c:=Xc.a3 (st:=st) (tl:=tl) (O:=O++[b]) (by omega) (by omega)
   unfold xf2 at c
   rw[zp (by omega),hl,h1,zbz (by omega)]at c
   exact c
 | a3 h1 h2 =>
   refine .inr ⟨by omega,?_⟩
   by_cases e:O.length=19
   ·rw[e]at hnx
    rw[zC hnx,<- zg (by omega)]
    have hv:zF ((O++[b]).drop 9) < 2048:=by
     have:=z3u ((O++[b]).drop 9) (fun x hx=>hO' x (List.mem_of_mem_drop hx))
     rw[List.length_drop,hl,e]at this
     exact this
    have hNe:xlN (O++[b])=zF ((O++[b]).drop 9)+1:=by unfold xlN;rw[z42 (by omega)]
    generalize zF ((O++[b]).drop 9)=v at *
    have e3:isC 3 (v:Nat)=true:=by
     unfold isC
     rw[show z0R 3=2048 from rfl]
     simp
     omega
    have z1:z1c 3 (v:Nat)=0:=by unfold z1c;rw[e3,if_pos rfl]
    have z2:z0m 3 (v:Nat)=v+1:=by unfold z0m;rw[e3,if_pos rfl,Int.toNat_natCast];exact at3 v
    have hfR:(xf2 tl O).R=false:=by
     show(zk tl 12==1)=false
     rw[h12];rfl
    have hrun:z1W (.size .checked) v m=PM.num m 4 (.check (zF (zw st)) (.headSum (v+1))):=by
     rw[<- hst]
     show(if z1c m.f.K _≠0\/(m.f.R=true/\z0m m.f.K _≠0)then m.bad 5 else zcw .checked (z0m m.f.K _) m)=_
     rw[hf,show(xf2 tl O).K=3 from rfl,z1,z2,hfR,if_neg (by rintro(q | ⟨q,_⟩);exact q rfl;cases q)]
     rfl
    rw[hrun,<- hNe]
    refine⟨.num 4 0 (.check (zF (zw st)) (.headSum (xlN (O++[b])))),m.f,m.l,m.wrong,m.oP,rfl,?_,fun _ h=>h⟩
    rw[hf,hld,hw,hP]
    have c:=Xc.a4 (st:=st) (tl:=tl) (O:=O++[b]) (by omega) (by omega)
    rw[zp (by omega),hl,e,z1D (by omega)]at c
    exact c
   ·rw[z0f hnx (by omega),<- zg (by omega)]
    refine⟨_,m.f,m.l,m.wrong,m.oP,rfl,?_,fun _ h=>h⟩
    rw[hf,hld,hw,hP]
    have c:=Xc.a3 (st:=st) (tl:=tl) (O:=O++[b]) (by omega) (by omega)
    rw[hl,show 20 - (O.length+1)=20 - O.length - 1 by omega,z1D (by omega)]at c
    exact c
 | a4 h1 h2 =>
   refine .inr ⟨by omega,?_⟩
   have hNm:=z3f (O:=O) (b:=b) h1
   by_cases e:O.length=23
   ·rw[e]at hnx
    rw[zC hnx,<- zg (by omega)]
    refine⟨.num 13 0 (.check (m.re 4) (.vc (xlN O))),m.f,m.l,m.wrong||zF ((O++[b]).drop 20) != zF (zw st),m.oP,rfl,?_,fun _ h=>h⟩
    rw[h4 (by rw[hP];simp),hf,hld,hw,hP]
    have c:=Xc.a5 (st:=st) (tl:=tl) (O:=O++[b]) (by omega) (by omega)
    rw[zp (by omega),hl,e,z1D (by omega),hNm,List.take_of_length_le (by omega)]at c
    have hT:okT st (O++[b]) = !(zF ((O++[b]).drop 20) != zF (zw st)):=by
     unfold okT
     rw[List.take_of_length_le (by rw[List.length_drop];omega)]
     have:=zeT (l:=(O++[b]).drop 20) (l':=zw st) (fun z hz=>hO' z (List.mem_of_mem_drop hz)) (z0B st) (by rw[z05,List.length_drop];omega)
     by_cases q:(O++[b]).drop 20=zw st
     ·rw[decide_eq_true q,this.2 q];simp
     ·rw[decide_eq_false q]
      have:zF ((O++[b]).drop 20)≠zF (zw st):=fun e=>q (this.1 e)
      simp[this]
    rw[hT,Bool.not_not]at c
    rw[Bool.false_or]
    exact c
   ·rw[z0f hnx (by omega),<- zg (by omega)]
    refine⟨_,m.f,m.l,m.wrong,m.oP,rfl,?_,fun _ h=>h⟩
    rw[hf,hld,hw,hP]
    have c:=Xc.a4 (st:=st) (tl:=tl) (O:=O++[b]) (by omega) (by omega)
    rw[hl,show 24 - (O.length+1)=24 - O.length - 1 by omega,z1D (by omega),hNm]at c
    exact c
 | a5 h1 h2 =>
   refine .inr ⟨by omega,?_⟩
   have hNm:=z3f (O:=O) (b:=b) (by omega)
   by_cases e:O.length=36
   ·rw[e]at hnx
    rw[zC hnx,<- zg (by omega)]
    refine⟨.num 8 0 (.vcid (xlN O)),m.f,m.l,m.wrong||zF ((O++[b]).drop 24) != cN 4 (tl++O.take 24),[5],rfl,?_,by rw[hP];simp⟩
    rw[hf,hld,hw]
    have c:=Xc.a6 (st:=st) (tl:=tl) (O:=O++[b]) (by omega) (by omega)
    rw[zp (by omega),hl,e,z1D (by omega),hNm]at c
    have hfit:z1F 4 (tl++(O++[b]).take 37)=decide (zF ((O++[b]).drop 24)=cN 4 (tl++O.take 24)):=by
     rw[List.take_of_length_le (by omega)]
     have e1:tl++(O++[b])=(tl++O.take 24)++(O++[b]).drop 24:=by
      rw[List.append_assoc,<- z0Q (b:=b) h1,List.take_append_drop]
     rw[e1]
     exact zcY (k:=4) (by decide) (fun z hz=>by
      rcases List.mem_append.1 hz with q | q
      ·exact ht z q
      ·exact hO z (List.mem_of_mem_take q)) (fun z hz=>hO' z (List.mem_of_mem_drop hz)) (by rw[List.length_drop,hl,e];rfl) (by rw[List.length_append,List.length_drop,List.length_take];omega)
    unfold okP at c
    rw[hfit,z6V h1]at c
    generalize zF ((O++[b]).drop 24)=A at *
    generalize cN 4 (tl++O.take 24)=B at *
    have:(!okT st O||A != B) = !(okT st O&&decide (A=B)):=by
     cases okT st O<;>by_cases q:A=B<;>simp[q]
    rw[this]
    exact c
   ·rw[z0f hnx (by omega),<- zg (by omega)]
    refine⟨_,m.f,m.l,m.wrong,m.oP,rfl,?_,fun _ h=>h⟩
    rw[hf,hld,hw,hP]
    have c:=Xc.a5 (st:=st) (tl:=tl) (O:=O++[b]) (by omega) (by omega)
    rw[hl,show 37 - (O.length+1)=37 - O.length - 1 by omega,z1D (by omega),hNm,z6V h1,z0Q h1]at c
    exact c
 | a6 h1 h2 =>
   refine .inr ⟨by omega,?_⟩
   have hNm:=z3f (O:=O) (b:=b) (by omega)
   by_cases e:O.length=44
   ·rw[e]at hnx
    rw[zC hnx,<- zg (by omega)]
    have hv:zF ((O++[b]).drop 37)%256=zF ((O++[b]).drop 37):=z5E hO' (by omega)
    refine⟨.num 32 0 (.af (xlN O)),{ m.f with V:=(zF ((O++[b]).drop 37)%256:Nat) },m.l,m.wrong,m.oP,rfl,?_,fun _ h=>h⟩
    rw[hv,hf,hld,hw,hP]
    have c:=Xc.a7 (st:=st) (tl:=tl) (O:=O++[b]) (by omega) (by omega)
    unfold xf3 at c
    rw[zp (by omega),hl,e,z1D (by omega),hNm,z1X h1,z42 (by omega)]at c
    exact c
   ·rw[z0f hnx (by omega),<- zg (by omega)]
    refine⟨_,m.f,m.l,m.wrong,m.oP,rfl,?_,fun _ h=>h⟩
    rw[hf,hld,hw,hP]
    have c:=Xc.a6 (st:=st) (tl:=tl) (O:=O++[b]) (by omega) (by omega)
    rw[hl,show 45 - (O.length+1)=45 - O.length - 1 by omega,z1D (by omega),hNm,z1X h1]at c
    exact c
 | a7 h1 h2 =>
   refine .inr ⟨by omega,?_⟩
   have hNm:=z3f (O:=O) (b:=b) (by omega)
   by_cases e:O.length=76
   ·rw[e]at hnx
    rw[zC hnx,<- zg (by omega)]
    have hp:=z7I O
    refine⟨.num 8 0 (.data (xlN O) .sumXl),{ m.f with A:=(zF ((O++[b]).drop 45):Nat) },m.l,m.wrong,m.oP,by
     show PM.data { m with f:={ m.f with A:=(zF ((O++[b]).drop 45):Nat) } } (xlN O) .sumXl=_
     unfold PM.data
     rw[if_neg (by omega)]
     rfl,?_,fun _ h=>h⟩
    rw[hf,hld,hw,hP]
    have c:=Xc.a8 (st:=st) (tl:=tl) (O:=O++[b]) 0 (by omega) (by omega) (by omega)
    unfold xf4 at c
    rw[zp (by omega),hl,e,z7b (by omega),hNm,z1X (by omega),z42 (by omega),show(O++[b]).drop 77=[]from List.drop_eq_nil_of_le (by omega)]at c
    exact c
   ·rw[z0f hnx (by omega),<- zg (by omega)]
    refine⟨_,m.f,m.l,m.wrong,m.oP,rfl,?_,fun _ h=>h⟩
    rw[hf,hld,hw,hP]
    have c:=Xc.a7 (st:=st) (tl:=tl) (O:=O++[b]) (by omega) (by omega)
    rw[hl,show 77 - (O.length+1)=77 - O.length - 1 by omega,z7b (by omega),hNm,z1X (by omega)]at c
    exact c
 | a8 j h1 h2 h3 =>
   have hNm:=z3f (O:=O) (b:=b) (by omega)
   refine .inr ⟨by omega,?_⟩
   by_cases e:O.length=77+8*j+7
   ·rw[show 8 - (O.length - (77+8*j))=1 by omega]at hnx
    rw[zC hnx,<- zg (by omega)]
    have hl':m.l++[zF ((O++[b]).drop (77+8*j))%256]=z0p ((O++[b]).drop 77):=by
     rw[z5E hO' (by omega),hld,z4b (a:=77) (n:=j) (by omega)]
    have hrun:z1W (.data (xlN O - j) .sumXl) (zF ((O++[b]).drop (77+8*j))) m=PM.data { m with l:=z0p ((O++[b]).drop 77) } (xlN O - j - 1) .sumXl:=by
     rw[<- hl'];rfl
    rw[hrun]
    by_cases q0:xlN O - j - 1=0
    ·refine⟨.num 32 0 (.check (m.re 5) .trailed),m.f,z0p ((O++[b]).drop 77),m.wrong,m.oP,by unfold PM.data;rw[if_pos q0];rfl,?_,fun _ h=>h⟩
     rw[h5,hf,hw,hP]
     have c:=Xc.a9 (st:=st) (tl:=tl) (O:=O++[b]) (by omega) (by omega)
     rw[hNm]at c
     rw[zp (by omega),hl,z4P (by omega),z1X (by omega),List.take_of_length_le (l:=O++[b]) (by omega),List.take_of_length_le (by rw[List.length_drop];omega),show 32 - (O.length+1 - (77+8*xlN O))=32 by omega]at c
     exact c
    ·refine⟨.num 8 0 (.data (xlN O - j - 1) .sumXl),m.f,z0p ((O++[b]).drop 77),m.wrong,m.oP,by unfold PM.data;rw[if_neg q0];rfl,?_,fun _ h=>h⟩
     rw[hf,hw,hP]
     have c:=Xc.a8 (st:=st) (tl:=tl) (O:=O++[b]) (j+1) (by omega) (by omega) (by omega)
     rw[zp (by omega),hl,z4P (by omega),z1X (by omega),hNm,show 8 - (O.length+1 - (77+8*(j+1)))=8 by omega,show xlN O - (j+1)=xlN O - j - 1 by omega]at c
     exact c
   ·rw[z0f hnx (by omega),<- zg (by omega)]
    refine⟨_,m.f,m.l,m.wrong,m.oP,rfl,?_,fun _ h=>h⟩
    rw[hf,hld,hw,hP]
    have c:=Xc.a8 (st:=st) (tl:=tl) (O:=O++[b]) j (by omega) (by omega) (by omega)
    rw[hl,show 8 - (O.length+1 - (77+8*j))=8 - (O.length - (77+8*j)) - 1 by omega,z4P (by omega),z1X (by omega),hNm,z4e (by omega) (by omega)]at c
    exact c
 | a9 h1 h2 =>
   have hNm:=z3f (O:=O) (b:=b) (by have:=z7I O;omega)
   have hfx:=z4P (tl:=tl) (O:=O) (b:=b) (by omega)
   have hok:=z1X (st:=st) (tl:=tl) (O:=O) (b:=b) (by omega)
   have htk:=z0Q (t:=O) (b:=b) h1
   have hld':z0p (((O++[b]).drop 77).take (8*xlN O))=m.l:=by rw[z0U (by omega),hld]
   by_cases e:O.length=77+8*xlN O+31
   ·refine .inl ⟨by omega,?_⟩
    rw[show 32 - (O.length - (77+8*xlN O))=1 by omega]at hnx
    rw[zC hnx,<- zg (by omega)]
    have hfit:z1F 5 (O++[b])=decide (zF ((O++[b]).drop (77+8*xlN O))=cN 5 (O.take (77+8*xlN O))):=by
     have e1:O++[b]=O.take (77+8*xlN O)++(O++[b]).drop (77+8*xlN O):=by
      rw[<- htk,List.take_append_drop]
     exact(congrArg (z1F 5) e1).trans <| zcY (k:=5) (by decide) (fun z hz=>hO z (List.mem_of_mem_take hz)) (fun z hz=>hO' z (List.mem_of_mem_drop hz)) (by rw[List.length_drop,hl,e,show 77+8*xlN O+31+1 - (77+8*xlN O)=32 by omega];rfl) (by rw[List.length_drop,List.length_take];omega)
    show({ m with wrong:=m.wrong||zF ((O++[b]).drop (77+8*xlN O)) != cN 5 (O.take (77+8*xlN O)),raw := .bare,nx := .must [0,1,1,0] .tail }:PM)=_
    rw[hNm,hfx,hok,hld',hfit,<- hf,hw]
    generalize zF ((O++[b]).drop (77+8*xlN O))=A
    generalize cN 5 (O.take (77+8*xlN O))=B
    have:(!okP st tl O||A != B) = !(okP st tl O&&decide (A=B)):=by
     cases okP st tl O<;>by_cases q:A=B<;>simp[q]
    rw[this]
   ·refine .inr ⟨by omega,?_⟩
    rw[z0f hnx (by omega),<- zg (by omega)]
    refine⟨_,m.f,m.l,m.wrong,m.oP,rfl,?_,fun _ h=>h⟩
    rw[<- hld',hf,hw,hP]
    have c:=Xc.a9 (st:=st) (tl:=tl) (O:=O++[b]) (by omega) (by omega)
    rw[hNm]at c
    rw[hl,show 32 - (O.length+1 - (77+8*xlN O))=32 - (O.length - (77+8*xlN O)) - 1 by omega,hfx,hok,htk]at c
    exact c
structure Xd(h y:List Nat)(m:PM):Prop where
 raw:m.raw = .spaced
 every:m.every=8
 since:m.since=z60 8 false (fgS 8 false 1 y)
 last:y≠[]->m.last=z1l 1 y
 ok:(fgS 8 false 1 y).ok=true
 stuffs:m.stuffs=h.length - 17
 f12:zk (zo h) 12=0
 cx:Xc (h.length - 17) (zo h) (xo y) m.nx m.f m.l m.wrong m.oP
 s4:4∈m.oP->m.re 4=cN 4 (zo h++xo y)
 s5:m.re 5=cN 5 (xo y)
theorem Xc.info{nx:Nx}{f:Hd}{l:List Nat}{w:Bool}{oP:List Nat}(h:Xc st tl O nx f l w oP):O.length < 109+8*xlN O/\(oP=[4,5]\/oP=[5])/\nx ≠ .none:=by
 have:=z7I O
 cases h<;>refine⟨by omega,by simp,by simp⟩
theorem zlr(o:Nat):szF 8 false o=if o=0 then 0 else o+(o - 1) / 8:=by unfold szF;split<;>simp
theorem zbg(h:(xo y).length < 109+8*xlN (xo y)):z1E y=false:=by
 have hl:=z5D (E:=8) (.inr rfl) false 1 y
 have hd:=z9J (E:=8) (A:=false) (p:=1) y
 unfold z1E
 rw[show fgS 8 false 1 y=fgS 8 false 1 y from rfl]at hl
 have hne:¬y.length=szF 8 false (109+8*xlN (xo y)):=by
  unfold xo at *
  rw[hl,zlr,zlr,if_neg (by omega:¬109+8*xlN (fgS 8 false 1 y).out=0)]
  unfold z2j at hd
  generalize xlN (fgS 8 false 1 y).out=N at *
  generalize (fgS 8 false 1 y).out.length=o at *
  cases hq:(fgS 8 false 1 y).last with
  | true =>
    have h1:=(hd hq).1
    by_cases h0:o=0
    ·rw[if_pos h0]at h1;cases h1
    ·rw[if_neg h0]at h1 ⊢
     have:=of_decide_eq_true h1
     rw[if_pos rfl]
     omega
  | false =>
    rw[if_neg (by simp:¬(false=true))]
    split<;>omega
 rw[decide_eq_false hne,Bool.and_false]
theorem zkX(h:(xo y).length=109+8*xlN (xo y))(hl:(fgS 8 false 1 y).last=false):z1E y=true:=by
 have hlen:=z5D (E:=8) (.inr rfl) false 1 y
 rw[hl,if_neg (by simp:¬(false=true)),Nat.add_zero]at hlen
 unfold z1E
 rw[hlen,show(fgS 8 false 1 y).out.length=(xo y).length from rfl,h,decide_eq_true rfl,Bool.and_true,decide_eq_true_eq,zlr,if_neg (by omega)]
 omega
theorem zih (F:Xd h y m) (hh:∀z∈h,z<=1) (hy:∀z∈y,z<=1) (hb:b<=1) (hlen:h.length+y.length+1<=65536) :
    ((fgS 8 false 1 (y++[b])).ok=false->m.step b=m.bad 4) /\
    ((fgS 8 false 1 (y++[b])).ok=true->z1E (y++[b])=true->Xe h (y++[b]) [] (m.step b)/\(m.step b).is=m.is/\(m.step b).kn=m.kn/\KdP (m.step b).oP/\(m.step b).oP.length<=2/\(m.step b).oR=m.oR) /\
    ((fgS 8 false 1 (y++[b])).ok=true->z1E (y++[b])=false->Xd h (y++[b]) (m.step b)/\(m.step b).is=m.is/\(m.step b).kn=m.kn/\(m.step b).oR=m.oR):=by
 have hprev:=z7a 8 false 1 y
 have hsd:=z7W (E:=8) (.inr rfl) false 1 y
 have hss:=z6L (E:=8) (.inr rfl) false 1 y b
 have hob:=z9O (E:=8) (A:=false) (p:=1) hy
 obtain⟨i1,i2,i3⟩:=F.cx.info
 have hS:=z0w 8 false 1 y b
 have hne:y++[b]≠[]:=by simp
 have htl:=z1H h
 have hol:=zeO 8 false 1 y
 have kP:KdP m.oP/\m.oP.length<=2:=by
  rcases i2 with e | e<;>rw[e]
  ·exact ⟨by intro k hk;have:k=4\/k=5:=by simpa using hk
             omega,by simp⟩
  ·exact ⟨by intro k hk;have:k=5:=by simpa using hk
             omega,by simp⟩
 cases hdue:(fgS 8 false 1 y).due with
 | true =>
   have hsn:m.since=m.every:=by rw[F.since,F.every];exact hsd.2 hdue
   have hy0:y≠[]:=by rintro rfl;cases hdue
   have hlast:m.last=(fgS 8 false 1 y).prev:=by rw[F.last hy0,hprev]
   have hout:xo (y++[b])=xo y:=by unfold xo;rw[hS];unfold z0y;simp only;rw[hdue,if_pos rfl]
   have hok:(fgS 8 false 1 (y++[b])).ok = !(b==(fgS 8 false 1 y).prev):=by rw[hS];unfold z0y;simp only;rw[F.ok,hdue];simp
   have hlt:=zbg (y:=y++[b]) (by rw[hout];exact i1)
   refine⟨fun e=>z6k F.raw hsn ?_,fun _ e=>(by rw[hlt]at e;cases e),fun e _ => ?_⟩
   ·rw[hok]at e
    rw[hlast]
    simpa using e
   ·have hq:b≠m.last:=by
     rw[hok]at e
     rw[hlast]
     simpa using e
    rw[z6i F.raw hsn hq]
    refine⟨⟨F.raw,F.every,?_,fun _=>(z1M _ _ _).symm,e,F.stuffs,F.f12,by rw[hout];exact F.cx,by rw[hout];exact F.s4,by rw[hout];exact F.s5⟩,rfl,rfl,rfl⟩
    show 0=_
    rw[hss,hdue,if_pos rfl]
 | false =>
   have hsn:m.since≠m.every:=by rw[F.since,F.every];intro e;rw[hsd.1 e]at hdue;cases hdue
   have hout:xo (y++[b])=xo y++[b]:=by unfold xo;rw[hS];unfold z0y;simp only;rw[hdue];rfl
   have hls:(fgS 8 false 1 (y++[b])).last=false:=by rw[hS];unfold z0y;simp only;exact hdue
   have hok:(fgS 8 false 1 (y++[b])).ok=true:=by rw[hS];unfold z0y;simp only;rw[F.ok,hdue];simp
   have hnd:m.oP.Nodup:=by rcases i2 with e | e<;>rw[e]<;>decide
   have h5:zL m.re m.oP b 5=cN 5 (xo y++[b]):=by
    rw[z4f hnd (by rcases i2 with e | e<;>rw[e]<;>simp),F.s5,z4h]
   have h4:4∈m.oP->zL m.re m.oP b 4=cN 4 (zo h++(xo y++[b])):=by
    intro hk
    rw[z4f hnd hk,F.s4 hk,<- List.append_assoc,z4h]
   have hx:=ziU (m:={ m.add b with since:=m.since+1,re:=zL m.re m.oP b }) F.cx (z3b hh) hob hb h4 h5 F.stuffs F.f12 (by show(zo h).length+(xo y).length+1<=65536;unfold xo;omega)
   rw[z6A F.raw hsn]
   rw[<- hout]at hx h4 h5
   refine⟨fun e=>(by rw[hok]at e;cases e),fun _ e => ?_,fun _ e => ?_⟩
   ·rcases hx with ⟨x1,x2⟩ | ⟨x1,_⟩
    ·rw[x2]
     refine⟨⟨rfl,zkA F.f12,rfl,?_,by simp,rfl⟩,rfl,rfl,kP.1,kP.2,rfl⟩
     show(!(okP (h.length - 17) (zo h) (xo (y++[b]))&&z1F 5 (xo (y++[b])))) = !z3D h (y++[b])
     unfold okP okT z3D
     rw[Bool.and_assoc]
    ·rw[zbg x1]at e;cases e
   ·rcases hx with ⟨x1,_⟩ | ⟨x1,nx,f,l,w,oP,x2,x3,x4⟩
    ·rw[zkX x1 hls]at e;cases e
    ·rw[x2]
     refine⟨⟨F.raw,F.every,?_,fun _=>(z1M _ _ _).symm,hok,F.stuffs,F.f12,x3,fun hk=>h4 (x4 4 hk),h5⟩,rfl,rfl,rfl⟩
     show m.since+1=_
     rw[hss,hdue,F.since];rfl
def zmi(kn:Bool):Ph->PM->Prop
 | .dyn x,m=>Dy kn x m
 | .fx h y,m=>Fx h y m
 | .xs h y,m=>Xs h y m
 | .xd h y,m=>Xd h y m
 | .xe h y z,m=>Xe h y z m
 | .tail ok f l t,m=>Tl ok f l t m
 | .fin _,m=>m.raw = .over
def PhB(n:Nat):Ph->Prop
 | .dyn x=>(∀z∈x,z<=1)/\x.length<=n
 | .fx h y=>(∀z∈h,z<=1)/\(∀z∈y,z<=1)/\h.length+y.length<=n
 | .xs h y=>(∀z∈h,z<=1)/\h.length+y.length<=n
 | .xd h y=>(∀z∈h,z<=1)/\(∀z∈y,z<=1)/\h.length+y.length<=n
 | _=>True
structure Sim(kn:Bool)(n:Nat)(p:Ph)(m:PM):Prop where
 hk:m.kn=kn
 is:m.is=zW p
 kk:KK m
 pb:PhB n p
 ph:zmi kn p m
theorem z2h(h:∀z∈x,z<=1)(hb:b<=1):∀z∈x++[b],z<=1:=by
 intro z hz
 rcases List.mem_append.1 hz with q | q
 ·exact h z q
 ·have:=List.mem_singleton.1 q;omega
theorem z1B{kn:Bool}{n:Nat}(h:m.kn=kn)(s:Sta):Sim kn n (.fin s) (m.fin s):=⟨h,rfl,⟨(by intro k hk;cases hk),(by intro k hk;cases hk),by simp[PM.fin],by simp[PM.fin]⟩,trivial,rfl⟩
theorem zcU{t:List Nat}:(t++[b]).length=t.length+1:=by simp
theorem z5T(h:m.raw = .bare)(b:Nat):m.step b=m.next b:=by unfold PM.step;rw[h]
theorem zav{kn:Bool}{n:Nat}{p:Ph}(S:Sim kn n p m)(hb:b<=1)(hn:n+1<=65536):Sim kn (n+1) (z09 kn p b) (m.step b):=by
 obtain⟨hkn,his,hkk,hpb,hph⟩:=S
 cases p with
 | fin s =>
   have hr:m.raw = .over:=hph
   have:m.step b=m:=by unfold PM.step;rw[hr]
   rw[this]
   exact⟨hkn,his,hkk,trivial,hr⟩
 | dyn x =>
   have D:Dy kn x m:=hph
   obtain⟨hx,hxl⟩:=hpb
   have hxl':(x++[b]).length<=n+1:=by simp;omega
   show Sim kn (n+1) (if full x then(if b=zl x then .fin (z1j 4)else .dyn (x++[b]))else z2T (x++[b]) (zo x++[b]) (zz kn (zo x++[b]))) (m.step b)
   cases hf:full x with
   | true =>
     rw[if_pos rfl]
     by_cases e:b=zl x
     ·rw[if_pos e,zkK D hf e]
      exact z1B hkn _
     ·rw[if_neg e]
      obtain⟨d1,d2,d3,d4,d5⟩:=zhj D hf e
      exact⟨d3.trans hkn,d2.trans his,⟨by rw[d4];exact hkk.r,by rw[d5];exact hkk.p,by rw[d4];exact hkk.lr,by rw[d5];exact hkk.lp⟩,⟨z2h hx hb,hxl'⟩,d1⟩
   | false =>
     rw[if_neg (by simp)]
     obtain⟨m1,e1,mo,r1,r2,r3,r4,r5,r6,r7,r8,r9,r10,r11,r12,r13⟩:=zkN D hkn hx hb (by omega) hf
     have ht:zo (x++[b])=zo x++[b]:=by rw[z0o,hf];rfl
     rw[e1]
     have his1:m1.is=zM:=r13.trans his
     unfold z3v at mo
     cases hj:zz kn (zo x++[b]) with
     | on =>
       rw[hj]at mo
       obtain⟨nx,f,l,oR,oP,q1,q2,q3,q4⟩:=mo
       rw[q1]
       obtain⟨kR,kP,_⟩:=q2.kinds
       refine⟨r12,his1,⟨?_,?_,?_,?_⟩,⟨z2h hx hb,hxl'⟩,⟨r1,r2,r3,r4,by rw[ht];exact r5,r6,by rw[ht];exact q2,fun k hk=>r9 k (by rw[<- r7];exact q3 k hk),fun k hk=>by rw[ht];exact r10 k (by rw[<- r8];exact q4 k hk),r11⟩⟩
       ·intro k hk;have:=q3 k hk;rw[r7]at this;exact hkk.r k this
       ·intro k hk;have:=q4 k hk;rw[r8]at this;exact hkk.p k this
       ·show oR.length<=2;rcases kR with e | e | e | e<;>rw[e]<;>decide
       ·show oP.length<=2;rcases kP with e | e | e<;>rw[e]<;>decide
     | bad =>
       rw[hj]at mo
       rw[mo]
       exact z1B r12 _
     | alien =>
       rw[hj]at mo
       rw[mo]
       exact z1B r12 _
     | cl =>
       rw[hj]at mo
       rw[mo]
       refine⟨r12,his1,⟨(by intro k hk;cases hk),?_,by simp,by simp⟩,trivial,⟨rfl,rfl,rfl,rfl,by simp,.inl ⟨rfl,rfl⟩⟩⟩
       intro k hk;have:k=1:=by simpa using hk
       omega
     | fd =>
       rw[hj]at mo
       obtain⟨q1,q2⟩:=mo
       rw[q1]
       have hk23:zx (fdN (zo x++[b]))=2\/zx (fdN (zo x++[b]))=3:=by unfold zx;split<;>simp
       refine⟨r12,his1,⟨?_,?_,by simp,by simp⟩,⟨z2h hx hb,by simp,by simpa using hxl'⟩,⟨rfl,rfl,rfl,r2,by rw[ht],by rw[ht],by rw[ht],?_,rfl,?_,.inl ⟨by show 0 < 4;omega,?_,r6⟩⟩⟩
       ·intro k hk;have:k=zx (fdN (zo x++[b])):=by simpa using hk
        omega
       ·intro k hk;have:k=zx (fdN (zo x++[b])):=by simpa using hk
        omega
       ·show m1.re _=cN _ ((x++[b])++[])
        rw[ht,List.append_nil]
        exact r9 _ (by rw[<- r7];exact q2)
       ·show 0 < fdM (x++[b])
        unfold fdM
        split<;>omega
       ·show Nx.num 4 0 (.check (zF (zw m1.stuffs)) _)=_
        rw[r5,ht]
        rfl
     | xl =>
       rw[hj]at mo
       obtain⟨q1,q2,q3,q4,q5⟩:=mo
       rw[q1]
       refine⟨r12,his1,⟨by rw[show _=m1.oR from rfl,r7];exact hkk.r,by rw[show _=m1.oP from rfl,r8];exact hkk.p,by rw[show _=m1.oR from rfl,r7];exact hkk.lr,by rw[show _=m1.oP from rfl,r8];exact hkk.lp⟩,⟨z2h hx hb,by simpa using hxl'⟩,⟨rfl,by rw[ht],by rw[ht];exact q2,?_,?_,r6,by simp,rfl,?_,r11⟩⟩
       ·exact q5
       ·show m1.stuffs=_
        rw[r5,q3]
       ·rw[ht]
        exact r10 4 (by rw[<- r8];exact q4)
 | fx h y =>
   have F:Fx h y m:=hph
   obtain⟨hh,hy,hl⟩:=hpb
   obtain⟨s1,s2,s3⟩:=zjc F hh hy hb (by omega)
   show Sim kn (n+1) (if(fgS 4 true (zl h) (y++[b])).ok then(if(y++[b]).length=fdM h then .tail (z4v h (y++[b])) (fdF (zo h)) (fdD (zo h)) []else .fx h (y++[b]))else .fin (z1j 4)) (m.step b)
   rw[show fgS 4 true (zl h) (y++[b])=fxS h (y++[b])from rfl]
   cases hok:(fxS h (y++[b])).ok with
   | false =>
     rw[if_neg (by simp),s1 hok]
     exact z1B hkn _
   | true =>
     rw[if_pos rfl]
     by_cases e:(y++[b]).length=fdM h
     ·rw[if_pos e]
      obtain⟨q1,q2,q3,q4,q5⟩:=s2 hok e
      exact⟨q3.trans hkn,q2.trans his,⟨by rw[q4];exact hkk.r,by rw[q5];exact hkk.p,by rw[q4];exact hkk.lr,by rw[q5];exact hkk.lp⟩,trivial,q1⟩
     ·rw[if_neg e]
      obtain⟨q1,q2,q3,q4,q5⟩:=s3 hok e
      exact⟨q3.trans hkn,q2.trans his,⟨by rw[q4];exact hkk.r,by rw[q5];exact hkk.p,by rw[q4];exact hkk.lr,by rw[q5];exact hkk.lp⟩,⟨hh,z2h hy hb,by simp;omega⟩,q1⟩
 | xs h y =>
   have F:Xs h y m:=hph
   obtain⟨hh,hl⟩:=hpb
   have hle:=F.len
   rw[z5T F.raw,z1s F.nx]
   show Sim kn (n+1) (if b=zy.getD y.length 0 then(if y.length=3 then .xd h []else .xs h (y++[b]))else .fin (z1j 5)) _
   have hd:(zy.drop y.length).headD 0=zy.getD y.length 0:=by
    rcases(by omega:y.length=0\/y.length=1\/y.length=2\/y.length=3)with e | e | e | e<;>rw[e]<;>rfl
   unfold PM.mustGo
   rw[hd]
   by_cases e:b=zy.getD y.length 0
   ·rw[if_pos e,if_neg (show ¬(b≠zy.getD y.length 0)from fun q=>q e)]
    by_cases e3:y.length=3
    ·rw[if_pos e3,if_pos (by rw[e3];rfl)]
     refine⟨hkn,his,⟨(by intro k hk;cases hk),?_,by simp[z1f,PM.num],by simp[z1f,PM.num]⟩,⟨hh,by simp,by simp;omega⟩,⟨rfl,rfl,rfl,fun h=>absurd rfl h,rfl,F.stuffs,F.f12,?_,fun _ => ?_,F.s5⟩⟩
     ·intro k hk;have:k=4\/k=5:=by simpa [z1f,PM.num]using hk
      omega
     ·have c:=Xc.a1 (st:=h.length - 17) (tl:=zo h) (O:=[]) (by simp)
      show Xc _ _ [] (.num 8 0 .sdt) m.f m.l m.wrong [4,5]
      rw[F.f,F.l,F.wr]
      exact c
     ·show m.re 4=cN 4 (zo h++[])
      rw[List.append_nil];exact F.s4
    ·rw[if_neg e3,if_neg (by rcases(by omega:y.length=0\/y.length=1\/y.length=2)with e | e | e<;>rw[e]<;>decide)]
     refine⟨hkn,his,⟨hkk.r,hkk.p,hkk.lr,hkk.lp⟩,⟨hh,by simp;omega⟩,⟨F.raw,F.f,F.f12,F.l,F.stuffs,F.wr,by simp;omega,?_,F.s4,F.s5⟩⟩
     show Nx.must (zy.drop y.length).tail .dataPart=_
     rw[List.length_append,List.length_singleton,List.tail_drop]
   ·rw[if_neg e,if_pos e]
    exact z1B hkn _
 | xd h y =>
   have F:Xd h y m:=hph
   obtain⟨hh,hy,hl⟩:=hpb
   obtain⟨s1,s2,s3⟩:=zih F hh hy hb (by omega)
   show Sim kn (n+1) (if(fgS 8 false 1 (y++[b])).ok then(if z1E (y++[b])then .xe h (y++[b]) []else .xd h (y++[b]))else .fin (z1j 4)) (m.step b)
   cases hok:(fgS 8 false 1 (y++[b])).ok with
   | false =>
     rw[if_neg (by simp),s1 hok]
     exact z1B hkn _
   | true =>
     rw[if_pos rfl]
     cases e:z1E (y++[b]) with
     | true =>
       rw[if_pos rfl]
       obtain⟨q1,q2,q3,q4,q5,q6⟩:=s2 hok e
       exact⟨q3.trans hkn,q2.trans his,⟨by rw[q6];exact hkk.r,q4,by rw[q6];exact hkk.lr,q5⟩,trivial,q1⟩
     | false =>
       rw[if_neg (by simp)]
       obtain⟨q1,q2,q3,q4⟩:=s3 hok e
       obtain⟨_,i2,_⟩:=q1.cx.info
       refine⟨q3.trans hkn,q2.trans his,⟨by rw[q4];exact hkk.r,?_,by rw[q4];exact hkk.lr,?_⟩,⟨hh,z2h hy hb,by simp;omega⟩,q1⟩
       ·intro k hk
        rcases i2 with e | e<;>rw[e]at hk
        ·have:k=4\/k=5:=by simpa using hk
         omega
        ·have:k=5:=by simpa using hk
         omega
       ·rcases i2 with e | e<;>rw[e]<;>simp
 | xe h y z =>
   have F:Xe h y z m:=hph
   have hle:=F.len
   rw[z5T F.raw,z1s F.nx]
   show Sim kn (n+1) (if b=z0u.getD z.length 0 then(if z.length=3 then .tail (z3D h y) (xlF (zo h) (xo y)) (xlD (xo y)) []else .xe h y (z++[b]))else .fin (z1j 5)) _
   have hd:(z0u.drop z.length).headD 0=z0u.getD z.length 0:=by
    rcases(by omega:z.length=0\/z.length=1\/z.length=2\/z.length=3)with e | e | e | e<;>rw[e]<;>rfl
   unfold PM.mustGo
   rw[hd]
   by_cases e:b=z0u.getD z.length 0
   ·rw[if_pos e,if_neg (show ¬(b≠z0u.getD z.length 0)from fun q=>q e)]
    by_cases e3:z.length=3
    ·rw[if_pos e3,if_pos (by rw[e3];rfl)]
     exact⟨hkn,his,⟨hkk.r,hkk.p,hkk.lr,hkk.lp⟩,trivial,⟨rfl,F.f,F.l,F.wr,by simp,.inl ⟨rfl,rfl⟩⟩⟩
    ·rw[if_neg e3,if_neg (by rcases(by omega:z.length=0\/z.length=1\/z.length=2)with e | e | e<;>rw[e]<;>decide)]
     refine⟨hkn,his,⟨hkk.r,hkk.p,hkk.lr,hkk.lp⟩,trivial,⟨F.raw,F.f,F.l,F.wr,by simp;omega,?_⟩⟩
     show Nx.must (z0u.drop z.length).tail .tail=_
     rw[List.length_append,List.length_singleton,List.tail_drop]
   ·rw[if_neg e,if_pos e]
    exact z1B hkn _
 | tail ok f l t =>
   have F:Tl ok f l t m:=hph
   have hle:=F.len
   rw[z5T F.raw]
   show Sim kn (n+1) (if t.length=2/\ok=false then .fin (z1j 6)else if t.length≠1/\b=0 then .fin (z1j 5)else if t.length=8 then .fin ⟨2,0,f,l⟩else .tail ok f l (t++[b])) _
   have kk':∀nx is,KK { m with nx:=nx,is:=is }:=fun _ _=>⟨hkk.r,hkk.p,hkk.lr,hkk.lp⟩
   rcases F.nx with ⟨n1,n2⟩ | ⟨n1,n2⟩ | ⟨n1,n2⟩ | ⟨n1,n2,n3⟩
   ·rw[z1s n2,if_neg (by omega)]
    have his':m.is=zM:=by
     rw[his]
     show(if t.length=1/\ok=true then _ else _)=_
     rw[if_neg (by omega)]
     rfl
    by_cases e:b=0
    ·rw[if_pos ⟨by omega,e⟩]
     subst e
     exact z1B hkn _
    ·have e1:b=1:=by omega
     subst e1
     rw[if_neg (by omega),if_neg (by omega)]
     have hrun:m.mustGo [1] .delimited 1={ m with is:=if m.wrong then m.is else { m.is with k:=1 },nx := .slot }:=by simp[PM.mustGo];rfl
     rw[hrun]
     refine⟨hkn,?_,kk' _ _,trivial,⟨F.raw,F.f,F.l,F.wr,by rw[zcU];omega,.inr (.inl ⟨by rw[zcU];omega,rfl⟩)⟩⟩
     show(if m.wrong then m.is else { m.is with k:=1 })=zW (.tail ok f l (t++[1]))
     rw[F.wr,his']
     have e1:(t++[1]).length=1:=by rw[zcU];omega
     cases ok<;>simp[zW,zM,n1]
   ·have hnx:m.next b={ m with is:={ m.is with k:=0 },nx := .behind }:=by unfold PM.next;rw[n2]
    rw[hnx,if_neg (by omega),if_neg (by omega),if_neg (by omega)]
    refine⟨hkn,?_,kk' _ _,trivial,⟨F.raw,F.f,F.l,F.wr,by rw[zcU];omega,.inr (.inr (.inl ⟨by rw[zcU];omega,rfl⟩))⟩⟩
    show({ m.is with k:=0 }:Sta)=(if(t++[b]).length=1/\ok=true then _ else _)
    rw[if_neg (by rw[zcU];omega),his]
    show({ (if t.length=1/\ok=true then(⟨1,0,noF,[]⟩:Sta) else⟨0,0,noF,[]⟩)with k:=0 }:Sta)=_
    split<;>rfl
   ·have his':m.is=zM:=by
     rw[his]
     show(if t.length=1/\ok=true then _ else _)=_
     rw[if_neg (by omega)]
     rfl
    have hnx:m.next b=if m.wrong then m.bad 6 else m.mustGo [1,1,1,1,1,1,1] .done b:=by unfold PM.next;rw[n2]
    rw[hnx,F.wr]
    cases ok with
    | false =>
      rw[if_pos ⟨n1,rfl⟩]
      exact z1B hkn _
    | true =>
      rw[if_neg (by simp)]
      show Sim kn (n+1) _ (m.mustGo [1,1,1,1,1,1,1] .done b)
      by_cases e:b=0
      ·rw[if_pos ⟨by omega,e⟩]
       subst e
       exact z1B hkn _
      ·have e1:b=1:=by omega
       subst e1
       rw[if_neg (by omega),if_neg (by omega)]
       refine⟨hkn,?_,kk' _ m.is,trivial,⟨F.raw,F.f,F.l,F.wr,by rw[zcU];omega,.inr (.inr (.inr ⟨by rw[zcU];omega,?_,rfl⟩))⟩⟩
       ·show m.is=(if(t++[1]).length=1/\true=true then _ else _)
        rw[if_neg (by rw[zcU];omega),his']
        rfl
       ·show Nx.must [1,1,1,1,1,1] .done=_
        rw[List.length_append,List.length_singleton,n1]
        rfl
   ·subst n3
    have his':m.is=zM:=by
     rw[his]
     show(if t.length=1/\true=true then _ else _)=_
     rw[if_neg (by omega)]
     rfl
    rw[z1s n2,if_neg (by simp)]
    have hd:(ones (9 - t.length)).headD 0=1:=by
     rw[show 9 - t.length=(8 - t.length)+1 by omega]
     rfl
    have htl:(ones (9 - t.length)).tail=ones (8 - t.length):=by
     rw[show 9 - t.length=(8 - t.length)+1 by omega]
     rfl
    unfold PM.mustGo
    rw[hd,htl]
    by_cases e:b=0
    ·rw[if_pos ⟨by omega,e⟩]
     subst e
     exact z1B hkn _
    ·have e1:b=1:=by omega
     subst e1
     rw[if_neg (by omega),if_neg (show ¬((1:Nat)≠1) by simp)]
     by_cases e8:t.length=8
     ·rw[if_pos e8,if_pos (by rw[e8];rfl)]
      show Sim kn (n+1) _ (m.fin ⟨2,0,m.f,m.l⟩)
      rw[F.f,F.l]
      exact z1B hkn _
     ·rw[if_neg e8,if_neg (by
       rw[show 8 - t.length=(7 - t.length)+1 by omega]
       simp[ones,List.replicate_succ])]
      refine⟨hkn,?_,kk' _ m.is,trivial,⟨F.raw,F.f,F.l,F.wr,by rw[zcU];omega,.inr (.inr (.inr ⟨by rw[zcU];omega,?_,rfl⟩))⟩⟩
      ·show m.is=(if(t++[1]).length=1/\true=true then _ else _)
       rw[if_neg (by rw[zcU];omega),his']
       rfl
      ·show Nx.must (ones (8 - t.length)) .done=_
       rw[List.length_append,List.length_singleton,show 9 - (t.length+1)=8 - t.length by omega]
def ReP(re:Nat->Nat):Prop:=∀k,1<=k->k<=5->re k < 2^szK (k:Nat)
theorem zkI(h:1<=k/\k<=5):szK (k:Nat)≠0:=by
 rcases(by omega:k=1\/k=2\/k=3\/k=4\/k=5)with rfl | rfl | rfl | rfl | rfl<;>decide
theorem ReP.feed{re:Nat->Nat}(h:ReP re)(ks:List Nat)(b:Nat):ReP (zL re ks b):=by
 induction ks generalizing re with
 | nil=>exact h
 | cons j ks ih =>
   show ReP (zL (zcR re j (z2x (szK (j:Nat)) (z08 (j:Nat)) (re j) b)) ks b)
   refine ih ?_
   intro k h1 h2
   unfold zcR
   by_cases e:k=j
   ·subst e
    rw[if_pos rfl]
    obtain⟨_,_,n3,_⟩:=z1C (k:Nat) (zkI ⟨h1,h2⟩)
    exact z6O n3
   ·rw[if_neg e]
    exact h k h1 h2
theorem ReP.zero:ReP (fun _=>0):=fun _ _ _=>Nat.two_pow_pos _
structure Le4(s:Nat)(m r:PM):Prop where
 a:r.alike<=m.alike
 t:r.stuffs<=m.stuffs
 i:r.since<=m.since\/r.since<=4
 l:r.l.length<=m.l.length+s
 e:r.re=m.re\/r.re=fun _=>0
 n:r.seen=m.seen
 s:r.is.l.length<=m.is.l.length\/r.is.l.length<=m.l.length+s
theorem z2k(m:PM)(s:Sta)(k:Nat)(hs:s.l.length<=m.l.length):Le4 k m (m.fin s):=⟨Nat.zero_le _,Nat.zero_le _,.inr (Nat.zero_le _),Nat.zero_le _,.inr rfl,rfl,.inr (Nat.le_trans hs (Nat.le_add_right _ _))⟩
theorem z3G(k:K0)(m:PM)(s:Nat):Le4 s m (z1f k m):=by
 cases k
 case done=>exact z2k _ _ _ (Nat.le_refl _)
 case delimited=>exact⟨Nat.le_refl _,Nat.le_refl _,.inl (Nat.le_refl _),Nat.le_add_right _ _,.inl rfl,rfl,.inl (by show(if m.wrong then m.is else { m.is with k:=1 }).l.length<=_;split<;>exact Nat.le_refl _)⟩
 all_goals exact⟨Nat.le_refl _,Nat.le_refl _,(by first | exact .inl (Nat.le_refl _) | exact .inr (Nat.le_refl 4) | exact .inr (Nat.zero_le _)),Nat.le_add_right _ _,.inl rfl,rfl,.inl (Nat.le_refl _)⟩
theorem z0x{r:PM}{s:Nat}(h1:r.alike=m.alike)(h2:r.stuffs=m.stuffs)(h3:r.since=m.since)(h4:r.l.length<=m.l.length+s)(h5:r.re=m.re)(h6:r.seen=m.seen)(h7:r.is.l.length<=m.is.l.length):Le4 s m r:=⟨by omega,by omega,.inl (by omega),h4,.inl h5,h6,.inl h7⟩
theorem Le4.from{m1 r:PM}{s:Nat}(h:Le4 0 m1 r)(h1:m1.alike=m.alike)(h2:m1.stuffs=m.stuffs)(h3:m1.since=m.since)(h4:m1.l.length<=m.l.length+s)(h5:m1.re=m.re)(h6:m1.seen=m.seen)(h7:m1.is=m.is):Le4 s m r :=
 ⟨by rw[<- h1];exact h.a,by rw[<- h2];exact h.t,by rw[<- h3];exact h.i,by have:=h.l;omega,by rw[<- h5];exact h.e,by rw[<- h6];exact h.n,by have h8:=h.s;rw[h7]at h8;rcases h8 with q | q;exact .inl q;exact .inr (by omega)⟩
theorem z4M(m:PM)(n:Nat)(k:K0):Le4 0 m (m.data n k):=by
 unfold PM.data
 split
 ·exact z3G _ _ _
 ·exact z0x rfl rfl rfl (Nat.le_refl _) rfl rfl (Nat.le_refl _)
theorem zgF(k:KS)(n:Nat)(m:PM):Le4 0 m (zcw k n m):=by
 cases k
 ·exact z4M _ _ _
 ·exact(z4M { m with oR:=[zx n] } n (.fixd (zx n))).from rfl rfl rfl (Nat.le_refl _) rfl rfl rfl
 ·exact z0x rfl rfl rfl (Nat.le_refl _) rfl rfl (Nat.le_refl _)
theorem zgi(k:KN)(v:Nat)(m:PM):Le4 1 m (z1W k v m):=by
 cases k
 case identified=>exact z0x rfl rfl rfl (Nat.le_add_right _ _) rfl rfl (Nat.le_refl _)
 case longOrNot =>
  show Le4 1 m (if v=3 then _ else if v=1 then _ else _)
  split
  ·exact z0x rfl rfl rfl (Nat.le_add_right _ _) rfl rfl (Nat.le_refl _)
  ·split
   ·exact z2k _ _ _ (Nat.zero_le _)
   ·exact z0x rfl rfl rfl (Nat.le_add_right _ _) rfl rfl (Nat.le_refl _)
 case prolonged=>exact z0x rfl rfl rfl (Nat.le_add_right _ _) rfl rfl (Nat.le_refl _)
 case classicOrNot =>
  show Le4 1 m (if v=0 then _ else if m.f.R=true then _ else _)
  split
  ·exact z3G _ _ _
  ·split
   ·exact z2k _ _ _ (Nat.zero_le _)
   ·exact z0x rfl rfl rfl (Nat.le_add_right _ _) rfl rfl (Nat.le_refl _)
 case fdOrXL =>
  show Le4 1 m (if v=0 then _ else if m.kn=true then _ else _)
  split
  ·exact z0x rfl rfl rfl (Nat.le_add_right _ _) rfl rfl (Nat.le_refl _)
  ·split
   ·exact z0x rfl rfl rfl (Nat.le_add_right _ _) rfl rfl (Nat.le_refl _)
   ·exact z2k _ _ _ (Nat.zero_le _)
 case flag f k=>exact(z3G k { m with f:=zl9 f (v==1) m.f } 0).from rfl rfl rfl (Nat.le_add_right _ _) rfl rfl rfl
 case size k =>
  show Le4 1 m (if _ then _ else _)
  split
  ·exact z2k _ _ _ (Nat.zero_le _)
  ·exact(zgF k _ m).from rfl rfl rfl (Nat.le_add_right _ _) rfl rfl rfl
 case data n k=>exact(z4M { m with l:=m.l++[v%256] } (n - 1) k).from rfl rfl rfl (by simp) rfl rfl rfl
 case check n k=>exact(z3G k { m with wrong:=m.wrong||v != n } 0).from rfl rfl rfl (Nat.le_add_right _ _) rfl rfl rfl
 case sdt=>exact z0x rfl rfl rfl (Nat.le_add_right _ _) rfl rfl (Nat.le_refl _)
 case vcid n=>exact z0x rfl rfl rfl (Nat.le_add_right _ _) rfl rfl (Nat.le_refl _)
 case af n=>exact(z4M { m with f:={ m.f with A:=(v:Nat) } } n .sumXl).from rfl rfl rfl (Nat.le_add_right _ _) rfl rfl rfl
theorem zaH(m:PM)(w:List Nat)(k:K0)(b:Nat):Le4 1 m (m.mustGo w k b):=by
 unfold PM.mustGo
 split
 ·exact z2k _ _ _ (Nat.zero_le _)
 ·split
  ·exact z3G _ _ _
  ·exact z0x rfl rfl rfl (Nat.le_add_right _ _) rfl rfl (Nat.le_refl _)
theorem z7l(m:PM)(b:Nat):Le4 1 m (m.next b):=by
 unfold PM.next
 split
 ·exact z0x rfl rfl rfl (Nat.le_add_right _ _) rfl rfl (Nat.le_refl _)
 ·split
  ·exact zgi _ _ _
  ·exact z0x rfl rfl rfl (Nat.le_add_right _ _) rfl rfl (Nat.le_refl _)
 ·exact zaH _ _ _ _
 ·exact z0x rfl rfl rfl (Nat.le_add_right _ _) rfl rfl (Nat.le_refl _)
 ·split
  ·exact z2k _ _ _ (Nat.zero_le _)
  ·exact zaH _ _ _ _
structure Lo(n:Nat)(m:PM):Prop where
 a:m.alike<=n
 t:m.stuffs<=n
 i:m.since<=n+4
 l:m.l.length<=n
 e:ReP m.re
 s:m.is.l.length<=n
theorem zdP{n:Nat}{m1 r:PM}(h:Le4 1 m1 r)(h1:m1.alike<=n+1)(h2:m1.stuffs<=n+1)(h3:m1.since<=n+5)(h4:m1.l.length<=n)(h5:ReP m1.re)(h6:m1.is.l.length<=n):Lo (n+1) r :=
 ⟨Nat.le_trans h.a h1,Nat.le_trans h.t h2,by rcases h.i with q | q<;>omega,by have:=h.l;omega,by rcases h.e with q | q<;>rw[q];exact h5;exact ReP.zero,by rcases h.s with q | q<;>omega⟩
theorem zdr{n:Nat}(h:Lo n m):Lo (n+1) (m.step b)/\(m.step b).seen=m.seen:=by
 have ha:(m.add b).alike<=n+1:=by
  show(if b=m.last then m.alike+1 else 1)<=n+1
  have:=h.a
  split<;>omega
 have h1:=h.a
 have h2:=h.t
 have h3:=h.i
 have h4:=h.l
 unfold PM.step
 split
 ·split
  ·split
   ·exact⟨zdP (z2k m _ 1 (Nat.zero_le _)) (by omega) (by omega) (by omega) h.l h.e h.s,rfl⟩
   ·exact⟨⟨ha,by show m.stuffs+1<=n+1;omega,by show m.since<=_;omega,by show m.l.length<=_;omega,h.e.feed _ _,Nat.le_succ_of_le h.s⟩,rfl⟩
  ·have q:=z7l { m.add b with re:=zL (zL m.re m.oR b) m.oP b } b
   exact⟨zdP q ha (by show m.stuffs<=_;omega) (by show m.since<=_;omega) h.l ((h.e.feed _ _).feed _ _) h.s,q.n⟩
 ·split
  ·split
   ·exact⟨zdP (z2k m _ 1 (Nat.zero_le _)) (by omega) (by omega) (by omega) h.l h.e h.s,rfl⟩
   ·exact⟨⟨ha,by show m.stuffs<=_;omega,Nat.zero_le _,by show m.l.length<=_;omega,h.e,Nat.le_succ_of_le h.s⟩,rfl⟩
  ·have q:=z7l { m.add b with since:=m.since+1,re:=zL m.re m.oP b } b
   exact⟨zdP q ha (by show m.stuffs<=_;omega) (by show m.since+1<=_;omega) h.l (h.e.feed _ _) h.s,q.n⟩
 ·have q:=z7l m b
  exact⟨zdP q (by omega) (by omega) (by omega) h.l h.e h.s,q.n⟩
 ·exact⟨⟨by omega,by omega,by omega,by omega,h.e,Nat.le_succ_of_le h.s⟩,rfl⟩
theorem Sim.seen{kn:Bool}{n:Nat}{p:Ph}(S:Sim kn n p m)(s:Nat):Sim kn n p { m with seen:=s }:=by
 obtain⟨h1,h2,h3,h4,h5⟩:=S
 refine⟨h1,h2,⟨h3.r,h3.p,h3.lr,h3.lp⟩,h4,?_⟩
 cases p with
 | dyn x=>have h:Dy kn x m:=h5;exact⟨h.raw,h.last,h.alike,h.run5,h.stuffs,h.wr,h.cx,h.sR,h.sP,h.s5⟩
 | fx a y=>have h:Fx a y m:=h5;exact⟨h.raw,h.every,h.since,h.last,h.f,h.l,h.oP,h.re,h.ok,h.len,h.nxt⟩
 | xs a y=>have h:Xs a y m:=h5;exact⟨h.raw,h.f,h.f12,h.l,h.stuffs,h.wr,h.len,h.nx,h.s4,h.s5⟩
 | xd a y=>have h:Xd a y m:=h5;exact⟨h.raw,h.every,h.since,h.last,h.ok,h.stuffs,h.f12,h.cx,h.s4,h.s5⟩
 | xe a y z=>have h:Xe a y z m:=h5;exact⟨h.raw,h.f,h.l,h.wr,h.len,h.nx⟩
 | tail ok f l t=>have h:Tl ok f l t m:=h5;exact⟨h.raw,h.f,h.l,h.wr,h.len,h.nx⟩
 | fin s=>exact h5
theorem Sim.raws{kn:Bool}{n:Nat}{p:Ph}(S:Sim kn n p m):m.isNil=false/\(m.raw = .over\/m.nx ≠ .none):=by
 obtain⟨h1,h2,h3,h4,h5⟩:=S
 unfold PM.isNil
 cases p with
 | dyn x=>have h:Dy kn x m:=h5;rw[h.raw];exact⟨rfl,.inr h.cx.kinds.2.2⟩
 | fx a y=>have h:Fx a y m:=h5;rw[h.raw];exact⟨rfl,.inr (by rcases h.nxt with q | q<;>rw[q.2.1]<;>simp)⟩
 | xs a y=>have h:Xs a y m:=h5;rw[h.raw];exact⟨rfl,.inr (by rw[h.nx];simp)⟩
 | xd a y=>have h:Xd a y m:=h5;rw[h.raw];exact⟨rfl,.inr h.cx.info.2.2⟩
 | xe a y z=>have h:Xe a y z m:=h5;rw[h.raw];exact⟨rfl,.inr (by rw[h.nx];simp)⟩
 | tail ok f l t=>have h:Tl ok f l t m:=h5;rw[h.raw];exact⟨rfl,.inr (by rcases h.nx with q | q | q | q;rw[q.2];simp;rw[q.2];simp;rw[q.2];simp;rw[q.2.1];simp)⟩
 | fin s=>rw[show m.raw = .over from h5];exact⟨rfl,.inl rfl⟩
theorem zhB(h:m.isNil=false)(b:Nat):m.take b=PM.step { m with seen:=m.seen+1 } b:=by
 unfold PM.take
 rw[h]
 rfl
structure Gd(kn:Bool)(x:List Nat)(m:PM):Prop where
 is:m.is=zW (scS kn x)
 seen:m.seen=x.length
 lo:Lo x.length m
 kk:KK m
 nn:(x=[]/\m=z9l kn)\/(m.isNil=false/\(m.raw = .over\/m.nx ≠ .none))
theorem zkq(kn:Bool)(s:Nat):Sim kn 0 (.dyn []) { (z9l kn).begin with seen:=s }:=by
 refine⟨rfl,rfl,⟨?_,?_,by simp[PM.begin,PM.must,z9l],by simp[PM.begin,PM.must,z9l]⟩,⟨by simp,Nat.le_refl _⟩,⟨rfl,rfl,rfl,by decide,rfl,rfl,Cx.s0 rfl,?_,?_,rfl⟩⟩
 ·intro k hk;have:k=2\/k=3:=by simpa [PM.begin,PM.must,z9l]using hk
  omega
 ·intro k hk;have:k=1\/k=4:=by simpa [PM.begin,PM.must,z9l]using hk
  omega
 ·intro k hk;have:k=2\/k=3:=by simpa [PM.begin,PM.must,z9l]using hk
  rcases this with rfl | rfl<;>rfl
 ·intro k hk;have:k=1\/k=4:=by simpa [PM.begin,PM.must,z9l]using hk
  rcases this with rfl | rfl<;>rfl
theorem zk6(kn:Bool):(∀z∈x,z<=1)->x.length<=65536->((x=[]/\goM kn x=z9l kn)\/Sim kn x.length (scS kn x) (goM kn x))/\(goM kn x).seen=x.length/\Lo x.length (goM kn x):=by
 refine zB (P:=fun x=>(∀z∈x,z<=1)->x.length<=65536->((x=[]/\goM kn x=z9l kn)\/Sim kn x.length (scS kn x) (goM kn x))/\(goM kn x).seen=x.length/\Lo x.length (goM kn x)) (fun _ _=>⟨.inl ⟨rfl,rfl⟩,rfl,⟨Nat.le_refl _,Nat.le_refl _,Nat.zero_le _,Nat.le_refl _,ReP.zero,Nat.le_refl _⟩⟩) (fun x b ih hb hl => ?_) x
 rw[List.length_append,List.length_singleton]at hl ⊢
 obtain⟨i1,i2,i3⟩:=ih (fun z hz=>hb z (List.mem_append_left _ hz)) (by omega)
 have hb1:=hb b (List.mem_append_right _ (List.mem_singleton.2 rfl))
 rw[zaX]
 have hsc:scS kn (x++[b])=z09 kn (scS kn x) b:=z0h kn (.dyn []) x b
 rw[hsc]
 rcases i1 with ⟨rfl,e⟩ | S
 ·rw[e]
  have ht:(z9l kn).take b=PM.step { (z9l kn).begin with seen:=1 } b:=rfl
  rw[ht]
  have h0:Lo 0 { (z9l kn).begin with seen:=1 }:=⟨Nat.le_refl _,Nat.le_refl _,Nat.zero_le _,Nat.le_refl _,fun k h1 h2=>by
   show z3j _ k < _
   unfold z3j
   rw[if_pos ⟨h1,h2⟩]
   exact(z1C (k:Nat) (zkI ⟨h1,h2⟩)).start,Nat.le_refl _⟩
  obtain⟨q1,q2⟩:=zdr (b:=b) h0
  exact⟨.inr (zav (zkq kn 1) hb1 (by omega)),q2,q1⟩
 ·rw[zhB S.raws.1]
  have h0:Lo x.length { goM kn x with seen:=(goM kn x).seen+1 }:=⟨i3.a,i3.t,i3.i,i3.l,i3.e,i3.s⟩
  obtain⟨q1,q2⟩:=zdr (b:=b) h0
  exact⟨.inr (zav (S.seen _) hb1 (by omega)),q2.trans (by show(goM kn x).seen+1=_;rw[i2]),q1⟩
theorem zit(kn:Bool)(hb:∀z∈x,z<=1)(hl:x.length<=65536):Gd kn x (goM kn x):=by
 obtain⟨i1,i2,i3⟩:=zk6 kn hb hl
 rcases i1 with ⟨rfl,e⟩ | S
 ·exact⟨rfl,i2,i3,⟨(by intro k hk;cases hk),(by intro k hk;cases hk),by simp[goM,z9l],by simp[goM,z9l]⟩,.inl ⟨rfl,e⟩⟩
 ·exact⟨S.is,i2,i3,S.kk,.inr S.raws⟩
end Go.Proofs.YtplbmlpdefpplaaGreatDoor
