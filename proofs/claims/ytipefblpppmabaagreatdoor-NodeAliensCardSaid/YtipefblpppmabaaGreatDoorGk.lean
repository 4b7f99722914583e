/- What a row of raw bits is (layer 9), as an automaton on lists: each state holds the bits that it has seen. No program here. No conditions. Frames on the wire and the automaton of layer 9: ahead of its delimiter each is at its tail, with all sums right, as that frame. No program here. No conditions but the fields' own widths. The automaton of layer 9: what is told of the beginnings of a frame on the wire; who doesn't know XL frames. No program here. No conditions but the fields' own widths. The automaton of layer 9: with one bit turned, where that is told, a frame isn't done. No program here. No conditions but the fields' own widths. The automaton of layer 9: with one bit turned behind what arbitrates an XL frame isn't done. No program here. No conditions but the fields' own widths. -/
import Derived.Test.YtipefblpppmabaaGreatDoorXlM
import Derived.Test.YtipefblpppmabaaGreatDoorFdP
namespace Go.Proofs.YtipefblpppmabaaGreatDoor
set_option linter.unusedVariables false
set_option linter.unusedSimpArgs false
open Go.RowKit
def noF:Hd:=⟨0,0,false,false,false,false,false,0,0,0⟩
structure Sta where
 k:Nat
 e:Nat
 f:Hd
 l:List Nat
def badS (e:Nat):Sta:=⟨3,e,noF,[]⟩
inductive Ph where
 | dyn (x:List Nat)
 | fx (h y:List Nat)
 | xs (h y:List Nat)
 | xd (h y:List Nat)
 | xe (h y z:List Nat)
 | tail (ok:Bool) (f:Hd) (l t:List Nat)
 | fin (s:Sta)
inductive Jd where
 | on
 | bad
 | alien
 | cl
 | fd
 | xl
def num4 (g:Nat->Nat) (k:Nat):Nat:=8*g k+4*g (k+1)+2*g (k+2)+g (k+3)
def codeJ (n at_ r code:Nat):Jd:=if n=at_/\(8 < code\/(r=1/\0 < code)) then .bad else if n=at_+8*code+15 then .cl else .on
def judgeN (kn:Bool) (n:Nat) (g:Nat->Nat):Jd :=
 if n=1 then (if g 0=1 then .bad else .on)
 else if n < 14 then .on
 else if n=14 then (if g 13=1/\g 12=0 then .bad else .on)
 else if g 13=1 then
  (if n < 34 then .on else if n=34 then (if g 33=1 then .bad else .on) else if n=35 then (if g 34=1 then .bad else .on) else if n < 39 then .on else codeJ n 39 (g 32) (num4 g 35))
 else if n=15 then (if g 14=1/\g 12=1 then .bad else .on)
 else if g 14=0 then (if n < 19 then .on else codeJ n 19 (g 12) (num4 g 15))
 else if n=16 then (if g 15=1/\kn=false then .alien else .on)
 else if g 15=0 then (if n < 22 then .on else if n=22+8*atF 2 (num4 g 18) then .fd else .on)
 else if g 16=1 then .bad else .xl
def bitG (l:List Nat) (i:Nat):Nat:=l.getD i 0
def judge (kn:Bool) (l:List Nat):Jd:=judgeN kn l.length (bitG l)
theorem judgeN_congr {kn:Bool} {n:Nat} {g g':Nat->Nat} (h:∀ i,i < n->g i=g' i):judgeN kn n g=judgeN kn n g':=by
 by_cases h1:n=1
 ·subst h1;simp[judgeN,h 0 (by omega)]
 by_cases h14:n < 14
 ·simp[judgeN,h1,h14]
 by_cases h14':n=14
 ·subst h14';simp[judgeN,h 12 (by omega),h 13 (by omega)]
 have e12:=h 12 (by omega)
 have e13:=h 13 (by omega)
 have e14:=h 14 (by omega)
 unfold judgeN
 rw[if_neg h1,if_neg h1,if_neg h14,if_neg h14,if_neg h14',if_neg h14',e12,e13,e14]
 by_cases hx:g' 13=1
 ·rw[if_pos hx,if_pos hx]
  by_cases h34:n < 34
  ·rw[if_pos h34,if_pos h34]
  rw[if_neg h34,if_neg h34]
  by_cases h34':n=34
  ·rw[if_pos h34',if_pos h34',h 33 (by omega)]
  rw[if_neg h34',if_neg h34']
  by_cases h35:n=35
  ·rw[if_pos h35,if_pos h35,h 34 (by omega)]
  rw[if_neg h35,if_neg h35]
  by_cases h39:n < 39
  ·rw[if_pos h39,if_pos h39]
  rw[if_neg h39,if_neg h39,num4,num4,h 32 (by omega),h 35 (by omega),h 36 (by omega),h 37 (by omega),h 38 (by omega)]
 ·rw[if_neg hx,if_neg hx]
  by_cases h15:n=15
  ·rw[if_pos h15,if_pos h15]
  rw[if_neg h15,if_neg h15]
  by_cases hc:g' 14=0
  ·rw[if_pos hc,if_pos hc]
   by_cases h19:n < 19
   ·rw[if_pos h19,if_pos h19]
   rw[if_neg h19,if_neg h19,num4,num4,h 15 (by omega),h 16 (by omega),h 17 (by omega),h 18 (by omega)]
  ·rw[if_neg hc,if_neg hc,h 15 (by omega)]
   by_cases h16:n=16
   ·rw[if_pos h16,if_pos h16]
   rw[if_neg h16,if_neg h16,h 16 (by omega)]
   by_cases hf:g' 15=0
   ·rw[if_pos hf,if_pos hf]
    by_cases h22:n < 22
    ·rw[if_pos h22,if_pos h22]
    rw[if_neg h22,if_neg h22,num4,num4,h 18 (by omega),h 19 (by omega),h 20 (by omega),h 21 (by omega)]
   ·rw[if_neg hf,if_neg hf]
theorem judge_take {kn:Bool} {l:List Nat} {j:Nat} (hj:j<=l.length):judge kn (l.take j)=judgeN kn j (bitG l):=by
 rw[judge,List.length_take,Nat.min_eq_left hj]
 exact judgeN_congr (fun i hi=>by simp[bitG,List.getD,List.getElem?_take,hi])
def clAt (l:List Nat):Nat:=if bitG l 13=1 then 39 else 19
def clF (l:List Nat):Hd :=
 if bitG l 13=1 then ⟨1,((numN ((l.drop 1).take 11)*262144+numN ((l.drop 14).take 18):Nat):Int),true,bitG l 32==1,false,false,false,0,0,0⟩
 else ⟨1,(numN ((l.drop 1).take 11):Nat),false,bitG l 12==1,false,false,false,0,0,0⟩
def clD (l:List Nat):List Nat:=packN ((l.drop (clAt l)).take (8*num4 (bitG l) (clAt l - 4)))
def fdN (l:List Nat):Nat:=atF 2 (num4 (bitG l) 18)
def fdF (l:List Nat):Hd:=⟨2,(numN ((l.drop 1).take 11):Nat),false,false,bitG l 16==1,bitG l 17==1,false,0,0,0⟩
def fdD (l:List Nat):List Nat:=packN (l.drop 22)
def fdM (h:List Nat):Nat:=if 16 < fdN (tell h) then 32 else 27
def fdO (h y:List Nat):List Nat:=(fgS 4 true (lastB h) y).out
def fdFits (h y:List Nat):Bool:=decide ((fdO h y).take 4=tallyL (h.length - (tell h).length))&&fitsB (kindD (fdN (tell h))) (h++fdO h y)
def xo (y:List Nat):List Nat:=(fgS 8 false 1 y).out
def xlN (o:List Nat):Nat:=numN ((o.drop 9).take 11)+1
def xdEnd (y:List Nat):Bool:=decide (22<=y.length)&&decide (y.length=szF 8 false (109+8*xlN (xo y)))
def xlFits (h y:List Nat):Bool:=decide (((xo y).drop 20).take 4=tallyL (h.length - 17))&&(fitsB 4 (tell h++(xo y).take 37)&&fitsB 5 (xo y))
def xlF (hd o:List Nat):Hd:=⟨3,(numN ((hd.drop 1).take 11):Nat),false,false,false,false,bitG o 8==1,(numN (o.take 8):Nat),(numN ((o.drop 37).take 8):Nat),(numN ((o.drop 45).take 32):Nat)⟩
def xlD (o:List Nat):List Nat:=packN ((o.drop 77).take (8*xlN o))
def afterJ (x l:List Nat):Jd->Ph
 | .on => .dyn x
 | .bad => .fin (badS 5)
 | .alien => .fin ⟨4,0,noF,[]⟩
 | .cl => .tail (fitsB 1 l) (clF l) (clD l) []
 | .fd => .fx x []
 | .xl => .xs x []
def stepS (kn:Bool):Ph->Nat->Ph
 | .dyn x,b=>if full x then (if b=lastB x then .fin (badS 4) else .dyn (x++[b])) else afterJ (x++[b]) (tell x++[b]) (judge kn (tell x++[b]))
 | .fx h y,b=>if (fgS 4 true (lastB h) (y++[b])).ok then (if (y++[b]).length=fdM h then .tail (fdFits h (y++[b])) (fdF (tell h)) (fdD (tell h)) [] else .fx h (y++[b])) else .fin (badS 4)
 | .xs h y,b=>if b=startX.getD y.length 0 then (if y.length=3 then .xd h [] else .xs h (y++[b])) else .fin (badS 5)
 | .xd h y,b=>if (fgS 8 false 1 (y++[b])).ok then (if xdEnd (y++[b]) then .xe h (y++[b]) [] else .xd h (y++[b])) else .fin (badS 4)
 | .xe h y z,b=>if b=stopX.getD z.length 0 then (if z.length=3 then .tail (xlFits h y) (xlF (tell h) (xo y)) (xlD (xo y)) [] else .xe h y (z++[b])) else .fin (badS 5)
 | .tail ok f l t,b=>if t.length=2/\ok=false then .fin (badS 6) else if t.length≠1/\b=0 then .fin (badS 5) else if t.length=8 then .fin ⟨2,0,f,l⟩ else .tail ok f l (t++[b])
 | .fin s,_ => .fin s
def goS (kn:Bool) (p:Ph) (x:List Nat):Ph:=x.foldl (stepS kn) p
def scS (kn:Bool) (x:List Nat):Ph:=goS kn (.dyn []) x
def staOf:Ph->Sta
 | .tail ok _ _ t=>if t.length=1/\ok=true then ⟨1,0,noF,[]⟩ else ⟨0,0,noF,[]⟩
 | .fin s=>s
 | _=>⟨0,0,noF,[]⟩
theorem goS_snoc (kn:Bool) (p:Ph) (x:List Nat) (b:Nat):goS kn p (x++[b])=stepS kn (goS kn p x) b:=by simp[goS]
theorem goS_append (kn:Bool) (p:Ph) (x y:List Nat):goS kn p (x++y)=goS kn (goS kn p x) y:=by simp[goS]
theorem goS_cons (kn:Bool) (p:Ph) (b:Nat) (x:List Nat):goS kn p (b::x)=goS kn (stepS kn p b) x:=rfl
theorem goS_fin (kn:Bool) (s:Sta) (x:List Nat):goS kn (.fin s) x = .fin s:=by
 induction x with
 | nil=>rfl
 | cons b x ih=>rw[goS_cons];exact ih
theorem sc_put {kn:Bool} {l:List Nat}:(∀ x∈l,x<=1)->(∀ j,1<=j->j < l.length->judge kn (l.take j) = .on)->l≠[]->scS kn (putL l)=afterJ (putL l) l (judge kn l):=by
 refine snocInd (P:=fun l=>(∀ x∈l,x<=1)->(∀ j,1<=j->j < l.length->judge kn (l.take j) = .on)->l≠[]->scS kn (putL l)=afterJ (putL l) l (judge kn l)) (fun _ _ h=>absurd rfl h) (fun l b ih hb hj _ => ?_) l
 have hb':∀ x∈l,x<=1:=fun x hx=>hb x (List.mem_append_left _ hx)
 have hd:scS kn (putL l) = .dyn (putL l):=by
  by_cases hl:l=[]
  ·subst hl;rfl
  ·have hp:0 < l.length:=List.length_pos_iff.2 hl
   have h1:=ih hb' (fun j h1 h2=>by
    have:=hj j h1 (by rw[List.length_append];omega)
    rwa[List.take_append_of_le_length (by omega)] at this) hl
   have h2:=hj l.length (by omega) (by rw[List.length_append];simp)
   rw[List.take_left] at h2
   rw[h1,h2]
   rfl
 have ht:=(tell_putL hb').1
 rw[putL_snoc]
 unfold putStep
 have hle:=lastB_le (putL_bit hb')
 cases hf:full (putL l) with
 | true =>
   simp only[if_true]
   obtain⟨ho,_⟩:=full_other hle
   have h1:scS kn (putL l++[1 - lastB (putL l)]) = .dyn (putL l++[1 - lastB (putL l)]):=by
    rw[scS,goS_snoc,<- scS,hd]
    show (if full (putL l) then _ else _)=_
    rw[hf,if_pos rfl,if_neg (by omega)]
   rw[show putL l++[1 - lastB (putL l),b]=(putL l++[1 - lastB (putL l)])++[b] by simp,scS,goS_snoc,<- scS,h1]
   show (if full (putL l++[1 - lastB (putL l)]) then _ else afterJ _ (tell _++[b]) (judge kn (tell _++[b])))=_
   rw[ho,tell_snoc,hf,if_pos rfl,ht]
   rfl
 | false =>
   simp only[Bool.false_eq_true,if_false]
   rw[scS,goS_snoc,<- scS,hd]
   show (if full (putL l) then _ else afterJ _ (tell _++[b]) (judge kn (tell _++[b])))=_
   rw[hf,ht]
   rfl
theorem go_fx {kn:Bool} {h y:List Nat}:(fgS 4 true (lastB h) y).ok=true->y.length < fdM h->goS kn (.fx h []) y = .fx h y:=by
 refine snocInd (P:=fun y=>(fgS 4 true (lastB h) y).ok=true->y.length < fdM h->goS kn (.fx h []) y = .fx h y) (fun _ _=>rfl) (fun y b ih h1 h2 => ?_) y
 rw[List.length_append,List.length_singleton] at h2
 rw[goS_snoc,ih (fgS_ok_left _ _ _ y [b] h1) (by omega)]
 show (if (fgS 4 true (lastB h) (y++[b])).ok then _ else _)=_
 rw[h1,if_pos rfl,if_neg (by rw[List.length_append,List.length_singleton];omega)]
theorem go_fxE {kn:Bool} {h y:List Nat} {b:Nat} (h1:(fgS 4 true (lastB h) (y++[b])).ok=true) (h2:y.length+1=fdM h):goS kn (.fx h []) (y++[b]) = .tail (fdFits h (y++[b])) (fdF (tell h)) (fdD (tell h)) []:=by
 rw[goS_snoc,go_fx (fgS_ok_left _ _ _ y [b] h1) (by omega)]
 show (if (fgS 4 true (lastB h) (y++[b])).ok then _ else _)=_
 rw[h1,if_pos rfl,if_pos (by rw[List.length_append,List.length_singleton];omega)]
theorem go_xd {kn:Bool} {h y:List Nat}:(fgS 8 false 1 y).ok=true->(∀ j,j<=y.length->xdEnd (y.take j)=false)->goS kn (.xd h []) y = .xd h y:=by
 refine snocInd (P:=fun y=>(fgS 8 false 1 y).ok=true->(∀ j,j<=y.length->xdEnd (y.take j)=false)->goS kn (.xd h []) y = .xd h y) (fun _ _=>rfl) (fun y b ih h1 h2 => ?_) y
 rw[goS_snoc,ih (fgS_ok_left _ _ _ y [b] h1) (fun j hj=>by
  have:=h2 j (by rw[List.length_append];omega)
  rwa[List.take_append_of_le_length hj] at this)]
 have h3:=h2 (y++[b]).length (Nat.le_refl _)
 rw[List.take_length] at h3
 show (if (fgS 8 false 1 (y++[b])).ok then _ else _)=_
 rw[h1,if_pos rfl,h3]
 rfl
theorem go_xdE {kn:Bool} {h y:List Nat} {b:Nat} (h1:(fgS 8 false 1 (y++[b])).ok=true) (h2:∀ j,j<=y.length->xdEnd (y.take j)=false) (h3:xdEnd (y++[b])=true):goS kn (.xd h []) (y++[b]) = .xe h (y++[b]) []:=by
 rw[goS_snoc,go_xd (fgS_ok_left _ _ _ y [b] h1) h2]
 show (if (fgS 8 false 1 (y++[b])).ok then _ else _)=_
 rw[h1,if_pos rfl,h3]
 rfl
theorem go_start (kn:Bool) (h:List Nat):goS kn (.xs h []) startX = .xd h []:=rfl
theorem go_stop (kn:Bool) (h y:List Nat):goS kn (.xe h y []) stopX = .tail (xlFits h y) (xlF (tell h) (xo y)) (xlD (xo y)) []:=rfl
theorem go_tail (kn:Bool) (f:Hd) (l:List Nat) (a:Nat) (ha:a<=1) :
    goS kn (.tail true f l []) [1] = .tail true f l [1]/\(∀ j,2<=j->j<=8->goS kn (.tail true f l []) (([1,a]++ones 8).take j) = .tail true f l (([1,a]++ones 8).take j))/\goS kn (.tail true f l []) (([1,a]++ones 8).take 9) = .fin ⟨2,0,f,l⟩:=by
 refine⟨rfl,fun j h1 h2 => ?_,?_⟩
 ·rcases (by omega:a=0\/a=1) with rfl | rfl<;>rcases (by omega:j=2\/j=3\/j=4\/j=5\/j=6\/j=7\/j=8) with rfl | rfl | rfl | rfl | rfl | rfl | rfl<;>rfl
 ·rcases (by omega:a=0\/a=1) with rfl | rfl<;>rfl
end Go.Proofs.YtipefblpppmabaaGreatDoor
namespace Go.Proofs.YtipefblpppmabaaGreatDoor
set_option linter.unusedVariables false
set_option linter.unusedSimpArgs false
open Go.RowKit
theorem bitG_r {A B:List Nat} (k:Nat) {i:Nat} (h:i=A.length+k):bitG (A++B) i=bitG B k:=by rw[bitG,List.getD,h,List.getElem?_append_right (by omega),Nat.add_sub_cancel_left];rfl
theorem bitsN4 (n:Nat):bitsN n 4=[n / 8%2,n / 4%2,n / 2%2,n%2]:=by
 simp[bitsN,List.range_succ]
theorem num4_at {A C:List Nat} {n k:Nat} (hn:n < 16) (hk:A.length=k):num4 (bitG (A++(bitsN n 4++C))) k=n:=by
 subst hk
 rw[num4,bitG_r (i:=A.length) 0 (by omega),bitG_r 1 rfl,bitG_r 2 rfl,bitG_r 3 rfl,bitsN4]
 simp[bitG]
 omega
theorem cut_at {A B C:List Nat} {k n:Nat} (hk:A.length=k) (hn:B.length=n):((A++(B++C)).drop k).take n=B:=by
 rw[List.drop_left' hk,List.take_left' hn]
theorem fits_sum {k:Int} {l:List Nat} (hz:szK k≠0) (hb:∀ x∈l,x<=1) (hl:l.length<=60000):fitsB k (l++sumC k l)=true:=by
 have hc:=chk_of hb (by omega)
 have:=(fits_add k l (moreOk_start hz hc) hl).1
 rwa[(sum_add hz hc).1] at this
theorem judge_ext {kn:Bool} {g:Nat->Nat} {c:Nat} (h0:g 0=0) (h12:g 12=1) (h13:g 13=1) (h33:g 33=0) (h34:g 34=0) (hc:num4 g 35=c) (h8:c<=8) (hr:g 32=1->c=0) :
    (∀ j,j < 39+8*c+15->judgeN kn j g = .on)/\judgeN kn (39+8*c+15) g = .cl:=by
 have key:∀ j,15<=j->judgeN kn j g=if j=39+8*c+15 then .cl else .on:=by
  intro j hj
  unfold judgeN
  rw[if_neg (by omega),if_neg (by omega),if_neg (by omega),if_pos h13]
  by_cases h1:j < 34
  ·rw[if_pos h1,if_neg (by omega)]
  rw[if_neg h1]
  by_cases h2:j=34
  ·rw[if_pos h2,if_neg (by omega),if_neg (by omega)]
  rw[if_neg h2]
  by_cases h3:j=35
  ·rw[if_pos h3,if_neg (by omega),if_neg (by omega)]
  rw[if_neg h3]
  by_cases h4:j < 39
  ·rw[if_pos h4,if_neg (by omega)]
  rw[if_neg h4,hc,codeJ,if_neg (by rintro⟨_,h | ⟨h,h'⟩⟩;omega;have:=hr h;omega)]
 refine⟨fun j hj => ?_,by rw[key _ (by omega),if_pos rfl]⟩
 rcases Nat.lt_or_ge j 15 with h | h
 ·unfold judgeN
  by_cases h1:j=1
  ·rw[if_pos h1,if_neg (by omega)]
  rw[if_neg h1]
  by_cases h2:j < 14
  ·rw[if_pos h2]
  rw[if_neg h2,if_pos (by omega),if_neg (by omega)]
 ·rw[key j h,if_neg (by omega)]
theorem judge_std {kn:Bool} {g:Nat->Nat} {c:Nat} (h0:g 0=0) (h13:g 13=0) (h14:g 14=0) (hc:num4 g 15=c) (h8:c<=8) (hr:g 12=1->c=0) :
    (∀ j,j < 19+8*c+15->judgeN kn j g = .on)/\judgeN kn (19+8*c+15) g = .cl:=by
 have key:∀ j,16<=j->judgeN kn j g=if j=19+8*c+15 then .cl else .on:=by
  intro j hj
  unfold judgeN
  rw[if_neg (by omega),if_neg (by omega),if_neg (by omega),if_neg (by omega),if_neg (by omega),if_pos h14]
  by_cases h1:j < 19
  ·rw[if_pos h1,if_neg (by omega)]
  rw[if_neg h1,hc,codeJ,if_neg (by rintro⟨_,h | ⟨h,h'⟩⟩;omega;have:=hr h;omega)]
 refine⟨fun j hj => ?_,by rw[key _ (by omega),if_pos rfl]⟩
 rcases Nat.lt_or_ge j 16 with h | h
 ·unfold judgeN
  by_cases h1:j=1
  ·rw[if_pos h1,if_neg (by omega)]
  rw[if_neg h1]
  by_cases h2:j < 14
  ·rw[if_pos h2]
  rw[if_neg h2]
  by_cases h3:j=14
  ·rw[if_pos h3,if_neg (by omega)]
  rw[if_neg h3,if_neg (by omega),if_pos (by omega),if_neg (by omega)]
 ·rw[key j h,if_neg (by omega)]
theorem judge_low {kn:Bool} {g:Nat->Nat} (h0:g 0=0) (h12:g 12=0) (h13:g 13=0) (h14:g 14=1) {j:Nat} (hj:j < 16):judgeN kn j g = .on:=by
 unfold judgeN
 by_cases h1:j=1
 ·rw[if_pos h1,if_neg (by omega)]
 rw[if_neg h1]
 by_cases h2:j < 14
 ·rw[if_pos h2]
 rw[if_neg h2]
 by_cases h3:j=14
 ·rw[if_pos h3,if_neg (by omega)]
 rw[if_neg h3,if_neg (by omega),if_pos (by omega),if_neg (by omega)]
theorem judge_fd {kn:Bool} {g:Nat->Nat} {n:Nat} (h0:g 0=0) (h12:g 12=0) (h13:g 13=0) (h14:g 14=1) (h15:g 15=0) (hc:atF 2 (num4 g 18)=n) :
    (∀ j,j < 22+8*n->judgeN kn j g = .on)/\judgeN kn (22+8*n) g = .fd:=by
 have key:∀ j,16<=j->judgeN kn j g=if j=22+8*n then .fd else .on:=by
  intro j hj
  unfold judgeN
  rw[if_neg (by omega),if_neg (by omega),if_neg (by omega),if_neg (by omega),if_neg (by omega),if_neg (by omega)]
  by_cases h1:j=16
  ·rw[if_pos h1,if_neg (by omega),if_neg (by omega)]
  rw[if_neg h1,if_pos h15]
  by_cases h2:j < 22
  ·rw[if_pos h2,if_neg (by omega)]
  rw[if_neg h2,hc]
 refine⟨fun j hj => ?_,by rw[key _ (by omega),if_pos rfl]⟩
 rcases Nat.lt_or_ge j 16 with h | h
 ·exact judge_low h0 h12 h13 h14 h
 ·rw[key j h,if_neg (by omega)]
theorem judge_xl {kn:Bool} {g:Nat->Nat} (h0:g 0=0) (h12:g 12=0) (h13:g 13=0) (h14:g 14=1) (h15:g 15=1) (h16:g 16=0) :
    judgeN kn 16 g=(if kn=true then .on else .alien)/\judgeN kn 17 g = .xl:=by
 constructor
 ·unfold judgeN
  rw[if_neg (by omega),if_neg (by omega),if_neg (by omega),if_neg (by omega),if_neg (by omega),if_neg (by omega),if_pos rfl]
  cases kn
  ·rw[if_pos ⟨h15,rfl⟩,if_neg (by simp)]
  ·rw[if_neg (by simp),if_pos rfl]
 ·unfold judgeN
  rw[if_neg (by omega),if_neg (by omega),if_neg (by omega),if_neg (by omega),if_neg (by omega),if_neg (by omega),if_neg (by omega),if_neg (by omega),if_neg (by omega)]
theorem bitB_one (R:Bool):(bitB R==1)=R:=by cases R<;>rfl
theorem bits_off {f:Hd} {l:List Nat}:okC f l=true->∀ x∈bodyC f l,x<=1:=by
 intro h
 rw[bodyC,if_pos h]
 exact bodyN_bit _ _ _ _
theorem sc_cl {kn:Bool} {f:Hd} {l:List Nat} (h:okC f l=true) (hI:0<=f.I) (hb:∀ x∈l,x < 256):scS kn (putL (bodyC f l)) = .tail true f l []:=by
 have hbit:=bits_off h
 obtain⟨i,ef,et,h8,hR,hX,hi⟩:=okC_parts h hI
 rw[bodyC,if_pos h,et] at hbit ⊢
 have hlen:=bodyN_len f.X f.R i l
 have hfit:fitsB 1 (bodyN f.X f.R i l)=true:=fits_sum (by decide) (preC_bit _ _ _ _) (by rw[preC_len];split<;>omega)
 have hpk:packN (bytesBits l)=l:=packN_bytes l hb
 cases hx:f.X with
 | true =>
   rw[hx] at ef hbit hlen hfit
   rw[if_pos rfl] at hlen
   have e1:bodyN true f.R i l=[0]++(bitsN (i / 262144) 11++([1,1]++(bitsN (i%262144) 18++[bitB f.R,0,0]++(bitsN l.length 4++bytesBits l)++sumC 1 (preC true f.R i l)))):=by simp[bodyN,preC,headC]
   have e2:bodyN true f.R i l=([0]++bitsN (i / 262144) 11++[1,1])++(bitsN (i%262144) 18++([bitB f.R,0,0]++(bitsN l.length 4++bytesBits l)++sumC 1 (preC true f.R i l))):=by simp[bodyN,preC,headC]
   have e3:bodyN true f.R i l=([0]++bitsN (i / 262144) 11++[1,1]++bitsN (i%262144) 18)++([bitB f.R,0,0]++((bitsN l.length 4++bytesBits l)++sumC 1 (preC true f.R i l))):=by simp[bodyN,preC,headC]
   have e4:bodyN true f.R i l=([0]++bitsN (i / 262144) 11++[1,1]++bitsN (i%262144) 18++[bitB f.R,0,0])++(bitsN l.length 4++(bytesBits l++sumC 1 (preC true f.R i l))):=by simp[bodyN,preC,headC]
   have e5:bodyN true f.R i l=([0]++bitsN (i / 262144) 11++[1,1]++bitsN (i%262144) 18++[bitB f.R,0,0]++bitsN l.length 4)++(bytesBits l++sumC 1 (preC true f.R i l)):=by simp[bodyN,preC,headC]
   have e6:bodyN true f.R i l=([0]++bitsN (i / 262144) 11)++([1,1]++(bitsN (i%262144) 18++([bitB f.R,0,0]++(bitsN l.length 4++bytesBits l)++sumC 1 (preC true f.R i l)))):=by simp[bodyN,preC,headC]
   have g0:bitG (bodyN true f.R i l) 0=0:=by rw[e1];rfl
   have g12:bitG (bodyN true f.R i l) 12=1:=by rw[e6,bitG_r 0 (by simp[bitsN_length])];rfl
   have g13:bitG (bodyN true f.R i l) 13=1:=by rw[e6,bitG_r 1 (by simp[bitsN_length])];rfl
   have g32:bitG (bodyN true f.R i l) 32=bitB f.R:=by rw[e3,bitG_r 0 (by simp[bitsN_length])];rfl
   have g33:bitG (bodyN true f.R i l) 33=0:=by rw[e3,bitG_r 1 (by simp[bitsN_length])];rfl
   have g34:bitG (bodyN true f.R i l) 34=0:=by rw[e3,bitG_r 2 (by simp[bitsN_length])];rfl
   have gc:num4 (bitG (bodyN true f.R i l)) 35=l.length:=by rw[e4];exact num4_at (by omega) (by simp[bitsN_length])
   obtain⟨j1,j2⟩:=judge_ext (kn:=kn) g0 g12 g13 g33 g34 gc h8 (fun h=>by
    rw[g32] at h
    have:f.R=true:=by cases hr:f.R with | true=>rfl | false=>rw[hr] at h;simp[bitB] at h
    rw[hR this];rfl)
   have hl2:(bodyN true f.R i l).length=39+8*l.length+15:=by omega
   rw[sc_put hbit (fun j h1 h2=>by rw[judge_take (by omega)];exact j1 j (by omega)) (by intro e;rw[e] at hl2;simp at hl2),judge,hl2,j2]
   show Ph.tail _ _ _ _=_
   rw[hfit]
   have eF:clF (bodyN true f.R i l)=f:=by
    rw[clF,if_pos g13,g32,bitB_one]
    have a1:((bodyN true f.R i l).drop 1).take 11=bitsN (i / 262144) 11:=by rw[e1];exact cut_at rfl (bitsN_length _ _)
    have a2:((bodyN true f.R i l).drop 14).take 18=bitsN (i%262144) 18:=by rw[e2];exact cut_at (by simp[bitsN_length]) (bitsN_length _ _)
    rw[a1,a2,numN_bitsN _ _ (by omega),numN_bitsN _ _ (by omega),show i / 262144*262144+i%262144=i by omega]
    exact ef.symm
   have eD:clD (bodyN true f.R i l)=l:=by
    rw[clD,clAt,if_pos g13,gc]
    rw[show ((bodyN true f.R i l).drop 39).take (8*l.length)=bytesBits l by rw[e5];exact cut_at (by simp[bitsN_length]) (bytesBits_len l),hpk]
   rw[eF,eD]
 | false =>
   rw[hx] at ef hbit hlen hfit
   rw[if_neg (by simp)] at hlen
   have hi2:i < 2048:=hX hx
   have e1:bodyN false f.R i l=[0]++(bitsN i 11++([bitB f.R,0,0]++(bitsN l.length 4++bytesBits l)++sumC 1 (preC false f.R i l))):=by simp[bodyN,preC,headC]
   have e2:bodyN false f.R i l=([0]++bitsN i 11)++([bitB f.R,0,0]++((bitsN l.length 4++bytesBits l)++sumC 1 (preC false f.R i l))):=by simp[bodyN,preC,headC]
   have e3:bodyN false f.R i l=([0]++bitsN i 11++[bitB f.R,0,0])++(bitsN l.length 4++(bytesBits l++sumC 1 (preC false f.R i l))):=by simp[bodyN,preC,headC]
   have e4:bodyN false f.R i l=([0]++bitsN i 11++[bitB f.R,0,0]++bitsN l.length 4)++(bytesBits l++sumC 1 (preC false f.R i l)):=by simp[bodyN,preC,headC]
   have g0:bitG (bodyN false f.R i l) 0=0:=by rw[e1];rfl
   have g12:bitG (bodyN false f.R i l) 12=bitB f.R:=by rw[e2,bitG_r 0 (by simp[bitsN_length])];rfl
   have g13:bitG (bodyN false f.R i l) 13=0:=by rw[e2,bitG_r 1 (by simp[bitsN_length])];rfl
   have g14:bitG (bodyN false f.R i l) 14=0:=by rw[e2,bitG_r 2 (by simp[bitsN_length])];rfl
   have gc:num4 (bitG (bodyN false f.R i l)) 15=l.length:=by rw[e3];exact num4_at (by omega) (by simp[bitsN_length])
   obtain⟨j1,j2⟩:=judge_std (kn:=kn) g0 g13 g14 gc h8 (fun h=>by
    rw[g12] at h
    have:f.R=true:=by cases hr:f.R with | true=>rfl | false=>rw[hr] at h;simp[bitB] at h
    rw[hR this];rfl)
   have hl2:(bodyN false f.R i l).length=19+8*l.length+15:=by omega
   rw[sc_put hbit (fun j h1 h2=>by rw[judge_take (by omega)];exact j1 j (by omega)) (by intro e;rw[e] at hl2;simp at hl2),judge,hl2,j2]
   show Ph.tail _ _ _ _=_
   rw[hfit]
   have eF:clF (bodyN false f.R i l)=f:=by
    rw[clF,if_neg (by omega),g12,bitB_one]
    have a1:((bodyN false f.R i l).drop 1).take 11=bitsN i 11:=by rw[e1];exact cut_at rfl (bitsN_length _ _)
    rw[a1,numN_bitsN _ _ (by omega)]
    exact ef.symm
   have eD:clD (bodyN false f.R i l)=l:=by
    rw[clD,clAt,if_neg (by omega),gc]
    rw[show ((bodyN false f.R i l).drop 19).take (8*l.length)=bytesBits l by rw[e4];exact cut_at (by simp[bitsN_length]) (bytesBits_len l),hpk]
   rw[eF,eD]
theorem fd_head {kn:Bool} {f:Hd} {l:List Nat} (h:okD f l=true) (hI:0<=f.I) (hb:∀ x∈l,x < 256) :
    scS kn (putL (bdC f l)) = .fx (putL (bdC f l)) []/\tell (putL (bdC f l))=bdC f l/\fdN (bdC f l)=l.length/\fdF (bdC f l)=f/\fdD (bdC f l)=l:=by
 have hbit:=bd_bit (f:=f) (l:=l)
 have hlen:=bd_len h
 obtain⟨i,ef,et,hh,hi⟩:=okD_parts h hI
 obtain⟨h64,c16,_,cat⟩:=has2 hh
 have ht:=(tell_putL hbit).1
 have hpk:packN (bytesBits l)=l:=packN_bytes l hb
 have eb:bdC f l=bodyD f.B f.E i l:=by rw[bdC,if_pos h,et]
 rw[eb] at hbit hlen ht ⊢
 obtain⟨c,hc⟩:∃ c,codeV 2 (l.length:Int)=c:=⟨_,rfl⟩
 rw[hc] at c16 cat
 have e1:bodyD f.B f.E i l=[0]++(bitsN i 11++([0,0,1,0,bitB f.B,bitB f.E]++(bitsN c 4++bytesBits l))):=by rw[<- hc];simp[bodyD,headD]
 have e2:bodyD f.B f.E i l=([0]++bitsN i 11)++([0,0,1,0,bitB f.B,bitB f.E]++(bitsN c 4++bytesBits l)):=by rw[<- hc];simp[bodyD,headD]
 have e3:bodyD f.B f.E i l=([0]++bitsN i 11++[0,0,1,0,bitB f.B,bitB f.E])++(bitsN c 4++bytesBits l):=by rw[<- hc];simp[bodyD,headD]
 have e4:bodyD f.B f.E i l=([0]++bitsN i 11++[0,0,1,0,bitB f.B,bitB f.E]++bitsN c 4)++bytesBits l:=by rw[<- hc];simp[bodyD,headD]
 have g0:bitG (bodyD f.B f.E i l) 0=0:=by rw[e1];rfl
 have g12:bitG (bodyD f.B f.E i l) 12=0:=by rw[e2,bitG_r 0 (by simp[bitsN_length])];rfl
 have g13:bitG (bodyD f.B f.E i l) 13=0:=by rw[e2,bitG_r 1 (by simp[bitsN_length])];rfl
 have g14:bitG (bodyD f.B f.E i l) 14=1:=by rw[e2,bitG_r 2 (by simp[bitsN_length])];rfl
 have g15:bitG (bodyD f.B f.E i l) 15=0:=by rw[e2,bitG_r 3 (by simp[bitsN_length])];rfl
 have g16:bitG (bodyD f.B f.E i l) 16=bitB f.B:=by rw[e2,bitG_r 4 (by simp[bitsN_length])];rfl
 have g17:bitG (bodyD f.B f.E i l) 17=bitB f.E:=by rw[e2,bitG_r 5 (by simp[bitsN_length])];rfl
 have gc:num4 (bitG (bodyD f.B f.E i l)) 18=c:=by rw[e3];exact num4_at c16 (by simp[bitsN_length])
 have hn:atF 2 (num4 (bitG (bodyD f.B f.E i l)) 18)=l.length:=by rw[gc];omega
 obtain⟨j1,j2⟩:=judge_fd (kn:=kn) g0 g12 g13 g14 g15 hn
 refine⟨?_,ht,hn,?_,?_⟩
 ·rw[sc_put hbit (fun j h1 h2=>by rw[judge_take (by omega)];exact j1 j (by omega)) (by intro e;rw[e] at hlen;simp at hlen;omega),judge,hlen,j2]
  rfl
 ·have a1:((bodyD f.B f.E i l).drop 1).take 11=bitsN i 11:=by rw[e1];exact cut_at rfl (bitsN_length _ _)
  rw[fdF,g16,g17,bitB_one,bitB_one,a1,numN_bitsN _ _ (by omega)]
  exact ef.symm
 ·rw[fdD,e4,List.drop_left' (by simp[bitsN_length]),hpk]
theorem snoc_of {y:List Nat} (h:0 < y.length):∃ z b,y=z++[b]:=⟨y.dropLast,y.getLast (List.ne_nil_of_length_pos h),(List.dropLast_concat_getLast _).symm⟩
theorem sc_fd {kn:Bool} {f:Hd} {l:List Nat} (h:okD f l=true) (hI:0<=f.I) (hb:∀ x∈l,x < 256):scS kn (rwD f l) = .tail true f l []:=by
 obtain⟨h1,h2,h3,h4,h5⟩:=fd_head (kn:=kn) h hI hb
 have hbit:=bd_bit (f:=f) (l:=l)
 have hpb:=putL_bit hbit
 have hle:=lastB_le hpb
 have hnum:=fixD_num l.length (putL (bdC f l)) (bdC f l)
 have hM:fdM (putL (bdC f l))=(fixD l.length (putL (bdC f l)) (bdC f l)).length:=by rw[fdM,h2,h3,hnum]
 obtain⟨o1,o2,o3,o4⟩:=fg_put (E:=4) (A:=true) hle (sumD_bit l.length (putL (bdC f l)) (bdC f l))
 have hpos:0 < (fixD l.length (putL (bdC f l)) (bdC f l)).length:=by rw[hnum];split<;>omega
 have hfit:fdFits (putL (bdC f l)) (fixD l.length (putL (bdC f l)) (bdC f l))=true:=by
  have e:fdO (putL (bdC f l)) (fixD l.length (putL (bdC f l)) (bdC f l))=sumD l.length (putL (bdC f l)) (bdC f l):=o1
  have hpl:=(putL_len2 (bdC f l)).1
  have hbl:=bd_len h
  have h64:=len64 h
  rw[fdFits,e,h2,h3,sumD,List.take_left' (tallyL_len _),decide_eq_true rfl,Bool.true_and,<- List.append_assoc]
  refine fits_sum (by rw[kindD_sz];split<;>omega) (fun x hx => ?_) (by rw[List.length_append,tallyL_len];omega)
  rcases List.mem_append.1 hx with hx | hx
  ·exact hpb x hx
  ·exact tallyL_bit _ x hx
 have ho:(fgS 4 true (lastB (putL (bdC f l))) (fixD l.length (putL (bdC f l)) (bdC f l))).ok=true:=o3
 obtain⟨z,b,hz⟩:=snoc_of hpos
 rw[hz] at hM hfit ho
 rw[rwD,scS,goS_append,<- scS,h1,hz,go_fxE ho (by rw[hM,List.length_append];rfl),hfit,h2,h4,h5]
def cS (E:Nat) (A:Bool):Nat->Bool × Nat
 | 0=>(A,0)
 | n+1=>(!(cS E A n).1&&decide (((cS E A n).2+1)%E=0),if (cS E A n).1 then (cS E A n).2 else (cS E A n).2+1)
theorem cS_is (E:Nat) (A:Bool) (p:Nat) (y:List Nat):(fgS E A p y).due=(cS E A y.length).1/\(fgS E A p y).out.length=(cS E A y.length).2:=by
 refine snocInd (P:=fun y=>(fgS E A p y).due=(cS E A y.length).1/\(fgS E A p y).out.length=(cS E A y.length).2) ⟨rfl,rfl⟩ (fun y b ih => ?_) y
 obtain⟨i1,i2⟩:=ih
 rw[fgS_snoc,List.length_append,List.length_singleton]
 unfold fgStep
 simp only[cS]
 rw[i1]
 constructor
 ·rw[List.length_append,i2];rfl
 ·cases (cS E A y.length).1
  ·simp[i2]
  ·simp[i2]
theorem fg_more (E:Nat) (A:Bool) (p:Nat) (x y:List Nat):∃ Z,(fgS E A p (x++y)).out=(fgS E A p x).out++Z:=by
 refine snocInd (P:=fun y=>∃ Z,(fgS E A p (x++y)).out=(fgS E A p x).out++Z) ⟨[],by simp⟩ (fun y b ih => ?_) y
 obtain⟨Z,hZ⟩:=ih
 rw[<- List.append_assoc,fgS_snoc]
 unfold fgStep
 simp only
 split
 ·exact⟨Z,hZ⟩
 ·exact⟨Z++[b],by rw[hZ,List.append_assoc]⟩
theorem xo_20 {y:List Nat} {j:Nat} (h:22<=j) (hj:j<=y.length):∃ W Z,(xo (y.take j))=W++Z/\W.length=20/\∃ Z',xo y=W++Z':=by
 refine⟨xo (y.take 22),?_⟩
 have hl:(xo (y.take 22)).length=20:=by
  have:=(cS_is 8 false 1 (y.take 22)).2
  rw[List.length_take,Nat.min_eq_left (by omega)] at this
  rw[xo,this]
  decide
 obtain⟨Z,hZ⟩:=fg_more 8 false 1 (y.take 22) ((y.take j).drop 22)
 obtain⟨Z',hZ'⟩:=fg_more 8 false 1 (y.take 22) (y.drop 22)
 rw[List.take_append_drop] at hZ'
 have e:y.take 22++(y.take j).drop 22=y.take j:=by
  have:=List.take_append_drop 22 (y.take j)
  rwa[List.take_take,Nat.min_eq_left h] at this
 rw[e] at hZ
 exact⟨Z,hZ,hl,Z',hZ'⟩
theorem xlN_pre {W Z:List Nat} (h:W.length=20):xlN (W++Z)=xlN W:=by
 rw[xlN,xlN,List.drop_append_of_le_length (by omega),List.take_append_of_le_length (by rw[List.length_drop];omega)]
theorem xlN_of {y:List Nat} {j:Nat} (h:22<=j) (hj:j<=y.length):xlN (xo (y.take j))=xlN (xo y):=by
 obtain⟨W,Z,h1,h2,Z',h3⟩:=xo_20 h hj
 rw[h1,h3,xlN_pre h2,xlN_pre h2]
theorem xl_head {kn:Bool} {i:Nat}:(∀ j,j < 16->judge kn ((headX i).take j) = .on)/\judge kn ((headX i).take 16)=(if kn=true then .on else .alien)/\judge kn (headX i) = .xl:=by
 have e2:headX i=([0]++bitsN i 11)++[0,0,1,1,0]:=by simp[headX]
 have g0:bitG (headX i) 0=0:=by rw[headX];rfl
 have g12:bitG (headX i) 12=0:=by rw[e2,bitG_r 0 (by simp[bitsN_length])];rfl
 have g13:bitG (headX i) 13=0:=by rw[e2,bitG_r 1 (by simp[bitsN_length])];rfl
 have g14:bitG (headX i) 14=1:=by rw[e2,bitG_r 2 (by simp[bitsN_length])];rfl
 have g15:bitG (headX i) 15=1:=by rw[e2,bitG_r 3 (by simp[bitsN_length])];rfl
 have g16:bitG (headX i) 16=0:=by rw[e2,bitG_r 4 (by simp[bitsN_length])];rfl
 obtain⟨j1,j2⟩:=judge_xl (kn:=kn) g0 g12 g13 g14 g15 g16
 refine⟨fun j hj => ?_,?_,?_⟩
 ·rw[judge_take (by rw[headX_len];omega)];exact judge_low g0 g12 g13 g14 hj
 ·rw[judge_take (by rw[headX_len];omega)];exact j1
 ·rw[judge,headX_len];exact j2
theorem xl_xs (i:Nat):scS true (putL (headX i)) = .xs (putL (headX i)) []:=by
 obtain⟨j1,j2,j3⟩:=xl_head (kn:=true) (i:=i)
 rw[sc_put (headX_bit i) (fun j h1 h2=>by
  rw[headX_len] at h2
  rcases Nat.lt_or_ge j 16 with h | h
  ·exact j1 j h
  ·obtain rfl:j=16:=by omega
   rw[j2,if_pos rfl]) (by intro e;have:=headX_len i;rw[e] at this;simp at this),j3]
 rfl
theorem xd_not {y:List Nat} {n j:Nat} (hn:xlN (xo y)=n) (hj:j<=y.length) (hm:j < szF 8 false (109+8*n)):xdEnd (y.take j)=false:=by
 unfold xdEnd
 rw[List.length_take,Nat.min_eq_left hj]
 by_cases h:22<=j
 ·rw[xlN_of h hj,hn,decide_eq_false (show ¬j=_ by omega),Bool.and_false]
 ·rw[decide_eq_false h,Bool.false_and]
theorem xl_body {i d v A:Nat} {S:Bool} {l:List Nat} (h1:1<=l.length) (h2:l.length<=2048) (hd:d < 256) (hv:v < 256) (hA:A < 4294967296) (hi:i < 2048) (hb:∀ x∈l,x < 256) :
    xlN (bodyX i d v A S l)=l.length/\xlF (headX i) (bodyX i d v A S l)=⟨3,(i:Int),false,false,false,false,S,(d:Int),(v:Int),(A:Int)⟩/\xlD (bodyX i d v A S l)=l /\
     ((bodyX i d v A S l).drop 20).take 4=tallyX i/\fitsB 4 (headX i++(bodyX i d v A S l).take 37)=true/\fitsB 5 (bodyX i d v A S l)=true:=by
 have hs4:(sumC 4 (headX i++preX i d l.length S)).length=13:=by rw[sumC_len];decide
 obtain⟨S4,hS4⟩:∃ S4,sumC 4 (headX i++preX i d l.length S)=S4:=⟨_,rfl⟩
 obtain⟨S5,hS5⟩:∃ S5,sumC 5 (pre2X i d v A S l)=S5:=⟨_,rfl⟩
 have hT:(tallyX i).length=4:=tallyL_len _
 have e0:bodyX i d v A S l=pre2X i d v A S l++S5:=by rw[bodyX,hS5]
 have e1:bodyX i d v A S l=preX i d l.length S++(S4++(bitsN v 8++(bitsN A 32++(bytesBits l++S5)))):=by rw[e0,pre2X,hS4];simp
 rw[hS4] at hs4
 have p1:preX i d l.length S=bitsN d 8++([bitB S]++(bitsN (l.length - 1) 11++tallyX i)):=rfl
 have a1:((bodyX i d v A S l).drop 9).take 11=bitsN (l.length - 1) 11:=by
  rw[e1,p1,show bitsN d 8++([bitB S]++(bitsN (l.length - 1) 11++tallyX i))++(S4++(bitsN v 8++(bitsN A 32++(bytesBits l++S5))))=(bitsN d 8++[bitB S])++(bitsN (l.length - 1) 11++(tallyX i++(S4++(bitsN v 8++(bitsN A 32++(bytesBits l++S5)))))) by simp]
  exact cut_at (by simp[bitsN_length]) (bitsN_length _ _)
 have a2:(bodyX i d v A S l).take 8=bitsN d 8:=by
  rw[e1,p1,List.append_assoc]
  exact List.take_left' (bitsN_length _ _)
 have a3:bitG (bodyX i d v A S l) 8=bitB S:=by
  rw[e1,p1,List.append_assoc,bitG_r 0 (by rw[bitsN_length])]
  rfl
 have a4:((bodyX i d v A S l).drop 37).take 8=bitsN v 8:=by
  rw[e1,<- List.append_assoc]
  exact cut_at (by rw[List.length_append,preX_len,hs4]) (bitsN_length _ _)
 have a5:((bodyX i d v A S l).drop 45).take 32=bitsN A 32:=by
  rw[e1,<- List.append_assoc,<- List.append_assoc]
  exact cut_at (by rw[List.length_append,List.length_append,preX_len,hs4,bitsN_length]) (bitsN_length _ _)
 have a6:((bodyX i d v A S l).drop 77).take (8*l.length)=bytesBits l:=by
  rw[e1,<- List.append_assoc,<- List.append_assoc,<- List.append_assoc]
  exact cut_at (by rw[List.length_append,List.length_append,List.length_append,preX_len,hs4,bitsN_length,bitsN_length]) (bytesBits_len l)
 have a7:((bodyX i d v A S l).drop 20).take 4=tallyX i:=by
  rw[e1,p1,show bitsN d 8++([bitB S]++(bitsN (l.length - 1) 11++tallyX i))++(S4++(bitsN v 8++(bitsN A 32++(bytesBits l++S5))))=(bitsN d 8++[bitB S]++bitsN (l.length - 1) 11)++(tallyX i++(S4++(bitsN v 8++(bitsN A 32++(bytesBits l++S5))))) by simp]
  exact cut_at (by simp[bitsN_length]) hT
 have a8:(bodyX i d v A S l).take 37=preX i d l.length S++S4:=by
  rw[e1,<- List.append_assoc]
  exact List.take_left' (by rw[List.length_append,preX_len,hs4])
 have hN:xlN (bodyX i d v A S l)=l.length:=by rw[xlN,a1,numN_bitsN _ _ (by omega)];omega
 refine⟨hN,?_,?_,a7,?_,?_⟩
 ·have b1:((headX i).drop 1).take 11=bitsN i 11:=by rw[headX];exact cut_at rfl (bitsN_length _ _)
  rw[xlF,a2,a3,a4,a5,b1,bitB_one,numN_bitsN _ _ (by omega),numN_bitsN _ _ (by omega),numN_bitsN _ _ (by omega),numN_bitsN _ _ (by omega)]
 ·rw[xlD,hN,a6];exact packN_bytes l hb
 ·rw[a8,<- List.append_assoc,<- hS4]
  refine fits_sum (by decide) (fun x hx => ?_) (by rw[List.length_append,headX_len,preX_len];omega)
  rcases List.mem_append.1 hx with hx | hx
  ·exact headX_bit i x hx
  ·exact preX_bit _ _ _ _ x hx
 ·rw[bodyX]
  exact fits_sum (by decide) (pre2X_bit _ _ _ _ _ _) (by rw[pre2X_len];omega)
theorem sc_xl {f:Hd} {l:List Nat} (h:okX f l=true) (hW:WdX f) (hb:∀ x∈l,x < 256):scS true (rwX f l) = .tail true f l []:=by
 obtain⟨i,d,v,A,S,ef,h1,h2,hi,hd,hv,hA,eb,_,et⟩:=okX_nums h hW
 obtain⟨x1,x2,x3,x4,x5,x6⟩:=xl_body (S:=S) h1 h2 hd hv hA hi hb
 have hbit:=bodyX_bit i d v A S l
 have hlen:=bodyX_len i d v A S l
 obtain⟨o1,o2,o3,o4⟩:=fg_put (E:=8) (A:=false) (p:=1) (by omega) hbit
 have hm:(fxPut 8 false 1 (bodyX i d v A S l)).length=szF 8 false (109+8*l.length):=by rw[fxPut_len,hlen]
 have hge:=szF_ge 8 false (109+8*l.length)
 have ho:xo (fxPut 8 false 1 (bodyX i d v A S l))=bodyX i d v A S l:=o1
 have hend:xdEnd (fxPut 8 false 1 (bodyX i d v A S l))=true:=by
  unfold xdEnd
  rw[ho,x1,hm,decide_eq_true (show 22<=_ by omega),decide_eq_true rfl]
  rfl
 have hnot:∀ j,j < (fxPut 8 false 1 (bodyX i d v A S l)).length->xdEnd ((fxPut 8 false 1 (bodyX i d v A S l)).take j)=false:=fun j hj =>
  xd_not (n:=l.length) (by rw[ho,x1]) (by omega) (by omega)
 have hfit:xlFits (putL (headX i)) (fxPut 8 false 1 (bodyX i d v A S l))=true:=by
  rw[xlFits,ho,(tell_putL (headX_bit i)).1,x4,x5,x6,tallyX,headX_len,decide_eq_true rfl]
  rfl
 have ht:=(tell_putL (headX_bit i)).1
 rw[rwX,eb,et]
 obtain⟨z,b,hz⟩:=snoc_of (y:=fxPut 8 false 1 (bodyX i d v A S l)) (by omega)
 rw[hz] at o3 hend hnot hfit ho
 rw[scS,goS_append,goS_append,goS_append,<- scS,xl_xs,go_start,hz,go_xdE o3 (fun j hj=>by
  have:=hnot j (by rw[List.length_append];simp;omega)
  rwa[List.take_append_of_le_length hj] at this) hend,go_stop,hfit,ho,ht,x2,x3,<- ef]
end Go.Proofs.YtipefblpppmabaaGreatDoor
namespace Go.Proofs.YtipefblpppmabaaGreatDoor
set_option linter.unusedVariables false
set_option linter.unusedSimpArgs false
open Go.RowKit
def moreS:Sta:=⟨0,0,noF,[]⟩
def slotS:Sta:=⟨1,0,noF,[]⟩
def doneS (f:Hd) (l:List Nat):Sta:=⟨2,0,f,l⟩
def alienS:Sta:=⟨4,0,noF,[]⟩
def rkS:Ph->Nat
 | .dyn _=>0
 | .fx _ _=>1
 | .xs _ _=>1
 | .xd _ _=>2
 | .xe _ _ _=>3
 | .tail _ _ _ t=>4+min t.length 9
 | .fin _=>1000
theorem rk_step (kn:Bool) (p:Ph) (b:Nat):rkS p<=rkS (stepS kn p b):=by
 cases p with
 | dyn x=>exact Nat.zero_le _
 | fx h y =>
   show 1<=_
   simp only[stepS]
   (repeat' split)<;>simp[rkS]
 | xs h y =>
   show 1<=_
   simp only[stepS]
   (repeat' split)<;>simp[rkS]
 | xd h y =>
   show 2<=_
   simp only[stepS]
   (repeat' split)<;>simp[rkS]
 | xe h y z =>
   show 3<=_
   simp only[stepS]
   (repeat' split)<;>simp[rkS]
 | tail ok f l t =>
   show 4+min t.length 9<=_
   simp only[stepS]
   (repeat' split)<;>simp only[rkS,List.length_append,List.length_singleton]<;>omega
 | fin s=>exact Nat.le_refl _
theorem rk_go (kn:Bool) (p:Ph) (x:List Nat):rkS p<=rkS (goS kn p x):=by
 refine snocInd (P:=fun x=>rkS p<=rkS (goS kn p x)) (Nat.le_refl _) (fun x b ih => ?_) x
 rw[goS_snoc]
 exact Nat.le_trans ih (rk_step _ _ _)
theorem sta_low {p:Ph} (h:rkS p<=4):staOf p=moreS:=by
 cases p with
 | tail ok f l t =>
   have h0:t.length=0:=by
    have:4+min t.length 9<=4:=h
    omega
   show (if t.length=1/\ok=true then _ else _)=_
   rw[if_neg (by omega)]
   rfl
 | fin s=>exact absurd h (by simp[rkS])
 | _=>rfl
theorem sc_split (kn:Bool) (x:List Nat) (j:Nat):scS kn x=goS kn (scS kn (x.take j)) (x.drop j):=by
 conv=>lhs;rw[<- List.take_append_drop j x]
 exact goS_append _ _ _ _
theorem sc_more {kn:Bool} {x:List Nat} (h:rkS (scS kn x)<=4) (j:Nat):staOf (scS kn (x.take j))=moreS:=by
 refine sta_low (Nat.le_trans ?_ h)
 rw[sc_split kn x j]
 exact rk_go _ _ _
theorem sc_wire {kn:Bool} {raw:List Nat} {f:Hd} {l:List Nat} {a:Nat} (h:scS kn raw = .tail true f l []) (ha:a<=1) :
    (∀ n,n<=raw.length->staOf (scS kn ((raw++([1,a]++ones 8)).take n))=moreS)/\staOf (scS kn ((raw++([1,a]++ones 8)).take (raw.length+1)))=slotS /\
     (∀ j,2<=j->j<=8->staOf (scS kn ((raw++([1,a]++ones 8)).take (raw.length+j)))=moreS)/\scS kn ((raw++([1,a]++ones 8)).take (raw.length+9)) = .fin (doneS f l):=by
 have key:∀ j,scS kn ((raw++([1,a]++ones 8)).take (raw.length+j))=goS kn (.tail true f l []) (([1,a]++ones 8).take j):=fun j=>by
  rw[List.take_length_add_append,scS,goS_append,<- scS,h]
 obtain⟨t1,t2,t3⟩:=go_tail kn f l a ha
 refine⟨fun n hn => ?_,?_,fun j h1 h2 => ?_,?_⟩
 ·rw[List.take_append_of_le_length hn]
  exact sc_more (by rw[h];exact Nat.le_refl _) n
 ·rw[key,show ([1,a]++ones 8).take 1=[1] from rfl,t1]
  rfl
 ·rw[key,t2 j h1 h2]
  show (if (List.take j _).length=1/\_ then _ else _)=_
  rw[List.length_take,if_neg (by simp[ones];omega)]
  rfl
 ·rw[key,t3]
  rfl
theorem judge_kn (l:List Nat):judge true l ≠ .alien/\(judge false l=judge true l\/judge false l = .alien):=by
 unfold judge
 generalize l.length=n
 generalize bitG l=g
 constructor
 ·unfold judgeN codeJ
  (repeat' split)<;>first
   | (intro h;cases h;done)
   | (rename_i hh;exact absurd hh.2 (by simp))
 ·by_cases h16:n=16
  ·subst h16
   have e:∀ kn,judgeN kn 16 g=if g 13=1 then .on else if g 14=0 then .on else if g 15=1/\kn=false then .alien else .on:=fun kn=>by
    unfold judgeN
    rw[if_neg (show ¬16=1 by omega),if_neg (show ¬16 < 14 by omega),if_neg (show ¬16=14 by omega),if_neg (show ¬16=15 by omega),if_pos (show 16 < 34 by omega),if_pos (show 16 < 19 by omega),if_pos (show 16=16 from rfl)]
   rw[e,e]
   by_cases h13:g 13=1
   ·rw[if_pos h13,if_pos h13];exact .inl rfl
   rw[if_neg h13,if_neg h13]
   by_cases h14:g 14=0
   ·rw[if_pos h14,if_pos h14];exact .inl rfl
   rw[if_neg h14,if_neg h14]
   by_cases h15:g 15=1
   ·rw[if_pos ⟨h15,rfl⟩];exact .inr rfl
   ·rw[if_neg (fun h=>h15 h.1),if_neg (fun h=>h15 h.1)];exact .inl rfl
  ·refine .inl ?_
   unfold judgeN
   rw[if_neg h16,if_neg h16]
theorem rk_alien (x:List Nat):staOf (scS true x)≠alienS/\(staOf (scS true x)).k≠4/\(scS false x=scS true x\/scS false x = .fin alienS):=by
 have key:(∀ s,scS true x = .fin s->s.k≠4)/\(scS false x=scS true x\/scS false x = .fin alienS):=by
  refine snocInd (P:=fun x=>(∀ s,scS true x = .fin s->s.k≠4)/\(scS false x=scS true x\/scS false x = .fin alienS)) ⟨fun s h=>(by cases h),.inl rfl⟩ (fun x b ih => ?_) x
  obtain⟨i1,i2⟩:=ih
  rw[scS,scS,goS_snoc,goS_snoc,<- scS,<- scS]
  constructor
  ·intro s hs
   generalize scS true x=p at *
   cases p with
   | dyn y =>
     have hj:=(judge_kn (tell y++[b])).1
     simp only[stepS] at hs
     split at hs
     ·split at hs
      ·cases hs;simp[badS]
      ·cases hs
     ·cases hq:judge true (tell y++[b])<;>rw[hq] at hs hj<;>simp only[afterJ] at hs
      ·cases hs
      ·cases hs;simp[badS]
      ·exact absurd rfl hj
      ·cases hs
      ·cases hs
      ·cases hs
   | fx h y=>simp only[stepS] at hs;(repeat' split at hs)<;>cases hs<;>simp[badS]
   | xs h y=>simp only[stepS] at hs;(repeat' split at hs)<;>cases hs<;>simp[badS]
   | xd h y=>simp only[stepS] at hs;(repeat' split at hs)<;>cases hs<;>simp[badS]
   | xe h y z=>simp only[stepS] at hs;(repeat' split at hs)<;>cases hs<;>simp[badS]
   | tail ok f l t=>simp only[stepS] at hs;(repeat' split at hs)<;>cases hs<;>simp[badS]
   | fin s'=>exact i1 s hs
  ·rcases i2 with i2 | i2
   ·rw[i2]
    generalize scS true x=p at *
    cases p with
    | dyn y =>
      simp only[stepS]
      split
      ·exact .inl rfl
      ·rcases (judge_kn (tell y++[b])).2 with h | h
       ·exact .inl (by rw[h])
       ·exact .inr (by rw[h];rfl)
    | _=>exact .inl rfl
   ·exact .inr (by rw[i2];rfl)
 have h4:(staOf (scS true x)).k≠4:=by
  have k1:=key.1
  generalize scS true x=p at *
  cases p with
  | tail ok f l t =>
    show (if t.length=1/\ok=true then (_:Sta) else _).k≠4
    split<;>simp
  | fin s=>exact k1 s rfl
  | _=>simp[staOf]
 exact⟨fun h=>h4 (by rw[h];rfl),h4,key.2⟩
theorem lastB_put (l:List Nat) (b:Nat):lastB (putL (l++[b]))=b:=by
 rw[putL_snoc]
 unfold putStep
 split
 ·rw[show putL l++[1 - lastB (putL l),b]=(putL l++[1 - lastB (putL l)])++[b] by simp,lastB_snoc]
 ·rw[lastB_snoc]
theorem put_other {l:List Nat} {b c:Nat} (hb:∀ x∈l++[b],x<=1) (h:c≠b):(runS (putL (l++[b]++[c]))).2<=2:=by
 rw[putL_snoc]
 unfold putStep
 have hl:=lastB_put l b
 split
 ·have h1:=(full_other (lastB_le (putL_bit hb))).2
  rw[show putL (l++[b])++[1 - lastB (putL (l++[b])),c]=(putL (l++[b])++[1 - lastB (putL (l++[b]))])++[c] by simp]
  have h2:=(runS_any (putL (l++[b])++[1 - lastB (putL (l++[b]))]) c).1
  omega
 ·rw[runS_other (by rw[hl];exact h)]
  omega
theorem headX_two (i:Nat):putL ((headX i).take 16)=putL ((headX i).take 15)++[1]/\putL (headX i)=putL ((headX i).take 16)++[0]:=by
 have e:headX i=([0]++bitsN i 11++[0])++[0]++[1]++[1]++[0]:=by simp[headX]
 have hl:([0]++bitsN i 11++[0]).length=13:=by simp[bitsN_length]
 have e15:(headX i).take 15=([0]++bitsN i 11++[0])++[0]++[1]:=by
  rw[e,show ([0]++bitsN i 11++[0])++[0]++[1]++[1]++[0]=(([0]++bitsN i 11++[0])++[0]++[1])++[1,0] by simp]
  exact List.take_left' (by rw[List.length_append,List.length_append,hl];rfl)
 have e16:(headX i).take 16=([0]++bitsN i 11++[0])++[0]++[1]++[1]:=by
  rw[e]
  exact List.take_left' (by rw[List.length_append,List.length_append,List.length_append,hl];rfl)
 have hb:=headX_bit i
 have hb14:∀ x∈([0]++bitsN i 11++[0])++[0],x<=1:=fun x hx=>hb x (by rw[e];exact List.mem_append_left _ (List.mem_append_left _ (List.mem_append_left _ hx)))
 have r1:=put_other (c:=1) hb14 (by omega)
 rw[<- e15] at r1
 have f1:putL ((headX i).take 16)=putL ((headX i).take 15)++[1]:=by
  rw[e16,<- e15,putL_snoc]
  unfold putStep
  rw[if_neg (by unfold full;simp;omega)]
 refine⟨f1,?_⟩
 have r2:=(runS_any (putL ((headX i).take 15)) 1).1
 rw[<- f1] at r2
 conv=>lhs;rw[e,<- e16,putL_snoc]
 unfold putStep
 rw[if_neg (by unfold full;simp;omega)]
theorem sc_alien (i:Nat) (y:List Nat):scS false (putL (headX i)++y) = .fin alienS/\scS false (putL (headX i)) = .fin alienS/\staOf (scS false ((putL (headX i)).take ((putL (headX i)).length - 2)))=moreS:=by
 obtain⟨e1,e2⟩:=headX_two i
 obtain⟨j1,j2,j3⟩:=xl_head (kn:=false) (i:=i)
 have hl:=headX_len i
 have hb:∀ n,∀ x∈(headX i).take n,x<=1:=fun n x hx=>headX_bit i x (List.mem_of_mem_take hx)
 have l16:((headX i).take 16).length=16:=by rw[List.length_take];omega
 have l15:((headX i).take 15).length=15:=by rw[List.length_take];omega
 have h16:scS false (putL ((headX i).take 16)) = .fin alienS:=by
  rw[sc_put (hb 16) (fun j h1 h2=>by rw[List.take_take,Nat.min_eq_left (by omega)];exact j1 j (by omega)) (by intro e;rw[e] at l16;simp at l16),j2]
  rfl
 have h15:scS false (putL ((headX i).take 15)) = .dyn (putL ((headX i).take 15)):=by
  rw[sc_put (hb 15) (fun j h1 h2=>by rw[List.take_take,Nat.min_eq_left (by omega)];exact j1 j (by omega)) (by intro e;rw[e] at l15;simp at l15),j1 15 (by omega)]
  rfl
 have hw:scS false (putL (headX i)) = .fin alienS:=by
  rw[e2,scS,goS_snoc,<- scS,h16]
  rfl
 refine⟨by rw[scS,goS_append,<- scS,hw];exact goS_fin _ _ _,hw,?_⟩
 have e3:(putL ((headX i).take 15)).length+([1]++[0]:List Nat).length - 2=(putL ((headX i).take 15)).length:=by simp
 rw[e2,e1,List.append_assoc,List.length_append,e3,List.take_left,h15]
 rfl
end Go.Proofs.YtipefblpppmabaaGreatDoor
