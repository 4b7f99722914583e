/- Bits with stuff bits behind each so many, and what they tell, as functions on lists, and more. Conditions: as each says. -/
import Derived.Test.YtplbmlpdefpplaaGreatDoorGs
set_option maxHeartbeats 3200000
set_option maxRecDepth 100000
namespace Go.Proofs.YtplbmlpdefpplaaGreatDoor
set_option linter.unusedVariables false
set_option linter.unusedSimpArgs false
open Go.RowKit
variable {A:Bool} {l:List Nat} {E n p:Nat}
def z2j(E:Nat)(A:Bool)(n:Nat):Bool:=if n=0 then A else decide (n%E=0)
def z1l(p:Nat)(l:List Nat):Nat:=if l=[]then p else l.getD (l.length - 1) 0
theorem z1M(p:Nat)(l:List Nat)(b:Nat):z1l p (l++[b])=b:=by simp[z1l]
theorem z58(hp:p<=1)(h:∀x∈l,x<=1):z1l p l<=1:=by
 unfold z1l
 split
 ·exact hp
 ·rename_i hl
  have hp:l.length - 1 < l.length:=by have:=List.length_pos_iff.2 hl;omega
  exact h _ (List.mem_of_getElem? (i:=l.length - 1) (by simp[List.getD,List.getElem?_eq_getElem hp]))
def zaK(E:Nat)(A:Bool)(p:Nat)(s:Nat × List Nat)(b:Nat):Nat × List Nat:=(s.1+1,if z2j E A s.1 then s.2++[1 - z1l p s.2,b]else s.2++[b])
theorem ze9(E:Nat)(A:Bool)(p:Nat)(s:Nat × List Nat)(b:Nat):zaK E A p s b=(s.1+1,if z2j E A s.1 then s.2++[1 - z1l p s.2,b]else s.2++[b]):=rfl
def zv(E:Nat)(A:Bool)(p:Nat)(l:List Nat):List Nat:=(l.foldl (zaK E A p) (0,[])).2
theorem zl2(E:Nat)(A:Bool)(p:Nat)(l:List Nat):∀s:Nat × List Nat,(l.foldl (zaK E A p) s).1=s.1+l.length:=by
 induction l with
 | nil=>intro s;rfl
 | cons b l ih=>intro s;rw[List.foldl_cons,ih];simp[zaK];omega
theorem zd7(E:Nat)(A:Bool)(p:Nat):zv E A p []=[]:=rfl
theorem z1L(E:Nat)(A:Bool)(p:Nat)(l:List Nat)(b:Nat):zv E A p (l++[b])=if z2j E A l.length then zv E A p l++[1 - z1l p (zv E A p l),b]else zv E A p l++[b]:=by
 have h:=zl2 E A p l (0,[])
 unfold zv
 rw[List.foldl_append,List.foldl_cons,List.foldl_nil,ze9,h]
 simp
theorem z2e:(∀x∈l,x<=1)->∀x∈zv E A p l,x<=1:=by
 refine zB (P:=fun l=>(∀x∈l,x<=1)->∀x∈zv E A p l,x<=1) (by simp[zv]) (fun l b ih hl => ?_) l
 have ih:=ih (fun x hx=>hl x (by simp[hx]))
 have hb:=hl b (by simp)
 rw[z1L]
 split
 ·intro x hx
  rcases List.mem_append.1 hx with h | h
  ·exact ih x h
  ·simp at h;omega
 ·intro x hx
  rcases List.mem_append.1 hx with h | h
  ·exact ih x h
  ·simp at h;omega
def szF(E:Nat)(A:Bool)(n:Nat):Nat:=if n=0 then 0 else n+(n - 1) / E+A.toNat
theorem zbr(hn:0 < n):n / E=(n - 1) / E+(if n%E=0 then 1 else 0):=by
 obtain⟨m,rfl⟩:∃m,n=m+1:=⟨n - 1,by omega⟩
 rw[Nat.add_sub_cancel,Nat.succ_div]
 simp only[Nat.dvd_iff_mod_eq_zero]
theorem z1T(A:Bool)(p:Nat)(l:List Nat):(zv E A p l).length=szF E A l.length:=by
 refine zB (P:=fun l=>(zv E A p l).length=szF E A l.length) (by simp[zv,szF]) (fun l b ih => ?_) l
 rw[z1L,List.length_append,List.length_singleton]
 have hs:szF E A (l.length+1)=szF E A l.length+1+(z2j E A l.length).toNat:=by
  unfold szF z2j
  by_cases h0:l.length=0
  ·rw[if_neg (by omega),if_pos h0,if_pos h0,h0]
   simp
  ·rw[if_neg (by omega),if_neg h0,if_neg h0,Nat.add_sub_cancel,zbr (by omega:0 < l.length)]
   by_cases hm:l.length%E=0
   ·simp[hm];omega
   ·simp[hm];omega
 rw[hs,<- ih]
 split
 ·rename_i h;rw[h];simp
 ·rename_i h;rw[Bool.not_eq_true]at h;rw[h];simp
structure FxS where
 due:Bool
 out:List Nat
 last:Bool
 prev:Nat
 ok:Bool
def z0y(E:Nat)(s:FxS)(b:Nat):FxS :=
 { due := !s.due&&decide ((s.out++[b]).length%E=0),out:=if s.due then s.out else s.out++[b],last:=s.due,prev:=b,ok:=s.ok && !(s.due&&b==s.prev) }
def fgS(E:Nat)(A:Bool)(p:Nat)(l:List Nat):FxS:=l.foldl (z0y E) ⟨A,[],false,p,true⟩
theorem z0w(E:Nat)(A:Bool)(p:Nat)(l:List Nat)(b:Nat):fgS E A p (l++[b])=z0y E (fgS E A p l) b:=by simp[fgS]
theorem z7a(E:Nat)(A:Bool)(p:Nat)(l:List Nat):(fgS E A p l).prev=z1l p l:=by
 refine zB (P:=fun l=>(fgS E A p l).prev=z1l p l) rfl (fun l b _ => ?_) l
 rw[z0w,z1M]
 rfl
theorem zeO(E:Nat)(A:Bool)(p:Nat)(l:List Nat):(fgS E A p l).out.length<=l.length:=by
 refine zB (P:=fun l=>(fgS E A p l).out.length<=l.length) (by simp[fgS]) (fun l b ih => ?_) l
 rw[z0w]
 unfold z0y
 simp only
 split<;>simp<;>omega
theorem z5s(E:Nat)(A:Bool)(p:Nat)(l:List Nat):(fgS E A p l).due=(!(fgS E A p l).last&&z2j E A (fgS E A p l).out.length):=by
 refine zB (P:=fun l=>(fgS E A p l).due=(!(fgS E A p l).last&&z2j E A (fgS E A p l).out.length)) (by simp[fgS,z2j]) (fun l b ih => ?_) l
 rw[z0w]
 unfold z0y
 simp only
 cases hd:(fgS E A p l).due with
 | true=>simp
 | false=>simp[z2j]
theorem z2s(E:Nat)(A:Bool)(p:Nat)(l m:List Nat):(fgS E A p (l++m)).ok=true->(fgS E A p l).ok=true:=by
 refine zB (P:=fun m=>(fgS E A p (l++m)).ok=true->(fgS E A p l).ok=true) (by simp) (fun m b ih h => ?_) m
 rw[<- List.append_assoc,z0w]at h
 unfold z0y at h
 simp only[Bool.and_eq_true]at h
 exact ih h.1
theorem z9O:(∀x∈l,x<=1)->∀x∈(fgS E A p l).out,x<=1:=by
 refine zB (P:=fun l=>(∀x∈l,x<=1)->∀x∈(fgS E A p l).out,x<=1) (by simp[fgS]) (fun l b ih hl => ?_) l
 have ih:=ih (fun x hx=>hl x (by simp[hx]))
 have hb:=hl b (by simp)
 rw[z0w]
 unfold z0y
 simp only
 split
 ·exact ih
 ·intro x hx
  rcases List.mem_append.1 hx with h | h
  ·exact ih x h
  ·simp at h;omega
theorem zi8(hp:p<=1):(∀x∈l,x<=1)->(fgS E A p (zv E A p l)).out=l/\(fgS E A p (zv E A p l)).last=false/\(fgS E A p (zv E A p l)).ok=true/\(fgS E A p (zv E A p l)).due=z2j E A l.length:=by
 refine zB (P:=fun l=>(∀x∈l,x<=1)->(fgS E A p (zv E A p l)).out=l/\(fgS E A p (zv E A p l)).last=false/\(fgS E A p (zv E A p l)).ok=true/\(fgS E A p (zv E A p l)).due=z2j E A l.length) (by simp[zv,fgS,z2j]) (fun l b ih hl => ?_) l
 have hl':∀x∈l,x<=1:=fun x hx=>hl x (by simp[hx])
 obtain⟨i1,i2,i3,i4⟩:=ih hl'
 have hle:=z58 hp (z2e (E:=E) (A:=A) (p:=p) hl')
 have hpv:=z7a E A p (zv E A p l)
 rw[z1L]
 cases hd:z2j E A l.length with
 | true =>
   rw[if_pos rfl,show zv E A p l++[1 - z1l p (zv E A p l),b]=(zv E A p l++[1 - z1l p (zv E A p l)])++[b]from by simp,z0w,z0w]
   unfold z0y
   simp only[i1,i3,i4,hd,hpv]
   simp[z2j]
   omega
 | false =>
   simp only[Bool.false_eq_true,if_false]
   rw[z0w]
   unfold z0y
   simp only[i1,i3,i4,hd,hpv]
   simp[z2j]
def StA(w:World)(R:Nat)(E lf ls sz:Nat):Prop:=Blk w R #[.int .i64 E,.int .i64 lf,.int .i64 ls,.int .i64 sz] 238
theorem StA.keep{F:Nat->Prop}{w w':World}{R E lf ls sz:Nat}(h:StA w R E lf ls sz)(hk:Kp F w w')(hn:¬F R):StA w' R E lf ls sz:=Blk.keep h hk hn
def z3I(w:World)(R E lf ls sz:Nat)(w':World):Prop:=StA w' R E lf ls sz/\Kp (fun k=>k=R) w w'
theorem z3I.drew{w:World}{R E lf ls sz:Nat}{w':World}(h:z3I w R E lf ls sz w'):z3I w R E lf ls sz w'.drew :=
 ⟨h.1,h.2.tr (F':=fun k=>k=R) (Kp.ofNb (Nb.drewN w' 1)) (fun _ h => .inl h)⟩
theorem z3C (R E lf ls sz:Nat) (w:World) (h:StA w R E lf ls sz) :
    Calls Tryz.prog 164 #[.pointer (some ⟨R,0,none⟩)] w fun e w'=>e = .returned (.bool (decide (lf=0)))/\w=w':=by
 have c1:w.cell? ⟨R,1,none⟩=some (.int .i64 lf):=Blk.cell h 1
 have hd:((lf:Int)==0)=decide (lf=0):=by
  by_cases h:lf=0
  ·subst h;rfl
  ·rw[decide_eq_false h,beq_eq_false_iff_ne];omega
 go_enter Tryz.func164,Tryz.ntmps164
 go_wp2
 go_ret
 exact⟨rfl,rfl⟩
theorem z8y (R E lf ls sz b:Nat) (w:World) (h:StA w R E lf ls sz) (hs:sz<=1000000) :
    Calls Tryz.prog 181 #[.pointer (some ⟨R,0,none⟩),.int .i64 b] w fun e w'=>e = .returned (.tuple #[])/\z3I w R E lf b (sz+1) w':=by
 have c2:w.cell? ⟨R,2,none⟩=some (.int .i64 ls):=Blk.cell h 2
 have c3:w.cell? ⟨R,3,none⟩=some (.int .i64 sz):=Blk.cell h 3
 have f2:=Blk.frozen h 2
 have f3:=Blk.frozen h 3
 have hfin:z3I w R E lf b (sz+1) ((w.setCell ⟨R,2,none⟩ (.int .i64 b)).setCell ⟨R,3,none⟩ (.int .i64 ((sz:Int)+1))):=by
  refine⟨?_,(Kp.set (F:=fun k=>k=R) rfl).tr (Kp.set (F:=fun k=>k=R) rfl) (fun k h => .inl h)⟩
  have:=(Blk.set h 2 (.int .i64 b)).set 3 (.int .i64 ((sz:Int)+1))
  simpa [StA]using this
 have HF:=zH hfin
 clear hfin h
 go_enter Tryz.func181,Tryz.ntmps181
 go_wp2
 go_region
 go_wp2
 go_end0
 exact⟨rfl,by simpa using HF.out.drew⟩
theorem zeG(h:n<=1):(1:Int) - (n:Int)=((1 - n:Nat):Int):=by omega
theorem zdp(h:1<=n):(n:Int) - 1=((n - 1:Nat):Int):=by omega
theorem z5C (R E lf ls sz:Nat) (w:World) (h:StA w R E lf ls sz) (hs:sz<=1000000) (hl:ls<=1) :
    Calls Tryz.prog 165 #[.pointer (some ⟨R,0,none⟩)] w fun e w'=>e = .returned (.int .u8 ((1 - ls:Nat):Int))/\z3I w R E E (1 - ls) (sz+1) w':=by
 have c2:w.cell? ⟨R,2,none⟩=some (.int .i64 ls):=Blk.cell h 2
 have H:=zH h
 have HC:=zH (zeG hl)
 obtain⟨q,hq⟩:∃q,q=1 - ls:=⟨_,rfl⟩
 have hq1:q<=1:=by omega
 rw[<- hq]at HC ⊢
 clear h hq
 go_enter Tryz.func165,Tryz.ntmps165
 go_wp2_with fail
 rw[HC.out]
 refine(z8y R E lf ls sz q w H.out hs).mono ?_
 rintro e w1 ⟨rfl,h1,hk⟩
 have d0:w1.cell? ⟨R,0,none⟩=some (.int .i64 E):=Blk.cell h1 0
 have d1:w1.cell? ⟨R,1,none⟩=some (.int .i64 lf):=Blk.cell h1 1
 have d2:w1.cell? ⟨R,2,none⟩=some (.int .i64 q):=Blk.cell h1 2
 have f1:=Blk.frozen h1 1
 have hfin:z3I w R E E q (sz+1) (w1.setCell ⟨R,1,none⟩ (.int .i64 E)):=by
  refine⟨?_,hk.tr (Kp.set (F:=fun k=>k=R) rfl) (fun k h => .inl h)⟩
  have:=Blk.set h1 1 (.int .i64 E)
  simpa [StA]using this
 have HF:=zH hfin
 clear hfin h1 hk HC H c2
 go_wp2
 go_region
 go_wp2
 go_ret
 exact⟨rfl,by simpa using HF.out.drew⟩
theorem z2v (R E lf ls sz b:Nat) (w:World) (h:StA w R E lf ls sz) (hs:sz<=1000000) (hb:b < 256) (hl:1<=lf) (hlf:lf<=64) :
    Calls Tryz.prog 166 #[.pointer (some ⟨R,0,none⟩),.int .u8 b] w fun e w'=>e = .returned (.tuple #[])/\z3I w R E (lf - 1) b (sz+1) w':=by
 have H:=zH h
 have HC:=zH (zdp hl)
 clear h
 go_enter Tryz.func166,Tryz.ntmps166
 go_wp2_with fail
 refine(z8y R E lf ls sz b w H.out hs).mono ?_
 rintro e w1 ⟨rfl,h1,hk⟩
 have d1:w1.cell? ⟨R,1,none⟩=some (.int .i64 lf):=Blk.cell h1 1
 have f1:=Blk.frozen h1 1
 have hfin:z3I w R E (lf - 1) b (sz+1) (w1.setCell ⟨R,1,none⟩ (.int .i64 ((lf:Int) - 1))):=by
  refine⟨?_,hk.tr (Kp.set (F:=fun k=>k=R) rfl) (fun k h => .inl h)⟩
  have:=Blk.set h1 1 (.int .i64 ((lf:Int) - 1))
  rw[HC.out]at this ⊢
  simpa [StA]using this
 have HF:=zH hfin
 clear hfin h1 hk HC H
 go_wp2
 go_region
 go_wp2
 go_end0
 exact⟨rfl,by simpa using HF.out.drew⟩
theorem z6w (p E:Nat) (A:Bool) (w:World) (hp:p<=1) (h1:1<=E) (h2:E<=64) :
    Calls Tryz.prog 161 #[.int .u8 p,.agg #[.int .i64 E,.bool A]] w fun e w'=>(∃R,e = .returned (.tuple #[.pointer (some ⟨R,0,none⟩),.int .i64 0])/\StA w' R E (if A then 0 else E) p 0/\w.heap.size<=R)/\Nb w w':=by
 cases A with
 | false =>
   go_enter Tryz.func161,Tryz.ntmps161
   go_wp2
   go_ret2
   refine⟨⟨w.heap.size+1,rfl,?_,by omega⟩,(Nb.rfl.al _).al _⟩
   have:=Blk.new (w.alloc (.cells #[.int .i64 E,.bool false] 189)) #[.int .i64 E,.int .i64 (if false then 0 else E:Nat),.int .i64 p,.int .i64 0] 238
   simpa [StA]using this
 | true =>
   go_enter Tryz.func161,Tryz.ntmps161
   go_wp2
   go_ret2
   refine⟨⟨w.heap.size+1,rfl,?_,by omega⟩,(Nb.rfl.al _).al _⟩
   have:=Blk.new (w.alloc (.cells #[.int .i64 E,.bool true] 189)) #[.int .i64 E,.int .i64 (if true then 0 else E:Nat),.int .i64 p,.int .i64 0] 238
   simpa [StA]using this
def z66(E:Nat)(A:Bool)(n:Nat):Nat:=if n=0 then(if A then 0 else E) else(E - n%E)%E
theorem zbi(A:Bool)(n:Nat):z66 E A n<=E:=by
 unfold z66
 split
 ·split<;>omega
 ·by_cases h:E=0
  ·subst h;simp
  ·exact Nat.le_of_lt (Nat.mod_lt _ (by omega))
theorem z5i(hE:1<=E)(A:Bool)(n:Nat):decide (z66 E A n=0)=z2j E A n:=by
 unfold z66 z2j
 by_cases h0:n=0
 ·rw[if_pos h0,if_pos h0]
  cases A with
  | true=>rfl
  | false=>simp;omega
 ·rw[if_neg h0,if_neg h0]
  have hlt:=Nat.mod_lt n (show 0 < E by omega)
  by_cases hm:n%E=0
  ·rw[hm,Nat.sub_zero,Nat.mod_self]
  ·rw[Nat.mod_eq_of_lt (by omega)]
   rw[decide_eq_false hm,decide_eq_false (by omega)]
theorem z6p(hE:1<=E)(A:Bool)(n:Nat):z66 E A (n+1)=(if z2j E A n then E else z66 E A n) - 1:=by
 unfold z66 z2j
 rw[if_neg (by omega)]
 have hlt:=Nat.mod_lt n (show 0 < E by omega)
 have hs:(n+1)%E=if n%E+1=E then 0 else n%E+1:=by
  rw[Nat.add_mod]
  by_cases h1:E=1
  ·subst h1;simp[Nat.mod_one]
  ·rw[Nat.mod_eq_of_lt (show 1 < E by omega)]
   by_cases h:n%E+1=E
   ·rw[if_pos h,h,Nat.mod_self]
   ·rw[if_neg h,Nat.mod_eq_of_lt (by omega)]
 rw[hs]
 by_cases h0:n=0
 ·subst h0
  rw[Nat.zero_mod,if_pos rfl]
  have e:(if(if 0=0 then A else decide True)=true then E else(if 0=0 then(if A=true then 0 else E) else(E - 0)%E)) - 1=E - 1:=by cases A<;>simp
  by_cases h1:0+1=E
  ·rw[if_pos h1,Nat.sub_zero,Nat.mod_self]
   cases A<;>simp<;>omega
  ·rw[if_neg h1,Nat.mod_eq_of_lt (by omega)]
   cases A<;>simp
 ·rw[if_neg h0,if_neg h0]
  by_cases hm:n%E=0
  ·simp only[hm,decide_true,if_true]
   by_cases h1:0+1=E
   ·rw[if_pos h1,Nat.sub_zero,Nat.mod_self];omega
   ·rw[if_neg h1,Nat.mod_eq_of_lt (by omega)]
  ·simp only[hm,decide_false,Bool.false_eq_true,if_false]
   rw[Nat.mod_eq_of_lt (show E - n%E < E by omega)]
   by_cases h1:n%E+1=E
   ·rw[if_pos h1,Nat.sub_zero,Nat.mod_self];omega
   ·rw[if_neg h1,Nat.mod_eq_of_lt (by omega)];omega
theorem z8R(hE:1<=E)(h:z2j E A n=false):1<=z66 E A n:=by
 have:=z5i hE A n
 rw[h]at this
 have:=of_decide_eq_false this
 omega
theorem zaU(A:Bool)(n:Nat):szF E A (n+1)=szF E A n+1+(if z2j E A n then 1 else 0):=by
 unfold szF z2j
 by_cases h0:n=0
 ·rw[if_neg (by omega),if_pos h0,if_pos h0,h0]
  cases A<;>simp
 ·rw[if_neg (by omega),if_neg h0,if_neg h0,Nat.add_sub_cancel,zbr (by omega:0 < n)]
  by_cases hm:n%E=0
  ·simp[hm];omega
  ·simp[hm];omega
theorem z7i(E:Nat)(A:Bool)(n:Nat):szF E A n<=2*n:=by
 unfold szF
 split
 ·omega
 ·have:=Nat.div_le_self (n - 1) E
  have:=Bool.toNat_le A
  omega
theorem zdn(E:Nat)(A:Bool)(n:Nat):n<=szF E A n:=by
 unfold szF
 generalize (n - 1) / E=q
 split<;>omega
def zw(n:Nat):List Nat:=zc ((2*(n%8)) ^^^ (n%8)) 4
theorem zcM(n:Nat):zw n=zw (n%8):=by unfold zw;rw[Nat.mod_mod]
theorem z05(n:Nat):(zw n).length=4:=zb _ _
theorem z0B(n:Nat):∀x∈zw n,x<=1:=fun x hx=>by have:=z7x _ _ x hx;omega
theorem zeN (n E:Nat) (A:Bool) (w:World) (hn:n<=65536) (h1:1<=E) (h2:E<=64) :
    Calls Tryz.prog 163 #[.int .i64 n,.agg #[.int .i64 E,.bool A]] w fun e w'=>e = .returned (.tuple #[.int .i64 (szF E A n),.int .i64 0])/\Nb w w':=by
 have d1:decide ((n:Int) < 0)=false:=by simp
 have d2:decide (65536 < (n:Int))=false:=by simp;omega
 go_enter Tryz.func163,Tryz.ntmps163
 go_wp2_with fail
 refine(z6w 0 E A _ (by omega) h1 h2).mono ?_
 rintro e w1 ⟨⟨R,rfl,hst,hR⟩,hnb⟩
 have hnb1:Nb w w1:=(Nb.rfl.al _).tr hnb
 have hR1:w.heap.size<=R:=by simp at hR;omega
 have HS:=zH hst
 have HN:=zH hnb1
 clear hst hnb hR hnb1
 go_wp2
 go_loopw [24] (fun i wr=>∃k:Nat,k<=n/\i = .int .i64 k/\StA wr R E (z66 E A k) 0 (szF E A k)/\Nb w wr) (fun i _=>n - (intOf i).toNat)
 case atStart=>exact⟨0,Nat.zero_le _,rfl,HS.out,HN.out⟩
 case round =>
  obtain⟨k,hk,rfl,hst,hnb⟩:=hrel
  clear HS HN
  by_cases hlt:k < n
  ·have hsz:=z7i E A k
   have hss:=zaU (E:=E) A k
   have hls:=z6p h1 A k
   have hdd:=z5i h1 A k
   have hle:=zbi (E:=E) A k
   cases hd:z2j E A k with
   | true =>
     rw[hd]at hss hls hdd
     simp only[if_true]at hss hls
     have H:=zH hst
     have HSS:=zH hss
     have HLS:=zH hls
     have HDD:=zH hdd
     have HNB:=zH hnb
     clear hst hss hls hdd hnb hd
     go_wp2_with fail
     refine(z3C R E _ 0 _ wr H.out).mono ?_
     rintro e w2 ⟨rfl,rfl⟩
     rw[HDD.out]
     go_wp2_with fail
     refine(z5C R E _ 0 _ _ H.out (by omega) (by omega)).mono ?_
     rintro e w3 ⟨rfl,hs3,hk3⟩
     have H3:=zH hs3
     have HK3:=zH hk3
     clear hs3 hk3
     go_wp2_with fail
     refine(z2v R E E _ _ 0 _ H3.out (by omega) (by omega) h1 h2).mono ?_
     rintro e w4 ⟨rfl,hs4,hk4⟩
     have H4:=zH hs4
     have HN4:Hid (Nb w w4):=zH (HNB.out.trans ((HK3.out.tr hk4 (fun _ h => .inl h)).toBelow HNB.out.size (fun k h=>by omega)))
     clear hs4 hk4
     go_wp2
     go_roundw
     case rel=>exact⟨k+1,by omega,by go_num,by rw[HSS.out,HLS.out];exact H4.out,HN4.out⟩
     case measure=>simp[intOf];omega
   | false =>
     have hpos:=z8R h1 hd
     rw[hd]at hss hls hdd
     simp only[Bool.false_eq_true,if_false,Nat.add_zero]at hss hls
     have H:=zH hst
     have HSS:=zH hss
     have HLS:=zH hls
     have HDD:=zH hdd
     have HNB:=zH hnb
     clear hst hss hls hdd hnb hd
     go_wp2_with fail
     refine(z3C R E _ 0 _ wr H.out).mono ?_
     rintro e w2 ⟨rfl,rfl⟩
     rw[HDD.out]
     go_wp2_with fail
     refine(z2v R E _ _ _ 0 _ H.out (by omega) (by omega) hpos (by omega)).mono ?_
     rintro e w4 ⟨rfl,hs4,hk4⟩
     have H4:=zH hs4
     have HN4:Hid (Nb w w4):=zH (HNB.out.trans (hk4.toBelow HNB.out.size (fun k h=>by omega)))
     clear hs4 hk4
     go_wp2
     go_roundw
     case rel=>exact⟨k+1,by omega,by go_num,by rw[HSS.out,HLS.out];exact H4.out,HN4.out⟩
     case measure=>simp[intOf];omega
  ·obtain rfl:k=n:=by omega
   have c3:wr.cell? ⟨R,3,none⟩=some (.int .i64 (szF E A k)):=Blk.cell hst 3
   clear hst
   go_wp2
   go_ret2
   exact⟨rfl,hnb⟩
theorem zbb (p:Nat) (a:Option Addr) (cap:Nat) (l:List Nat) (E:Nat) (A:Bool) (w:World) (hp:p<=1) (h:Bs w a cap l) (h1:1<=E) (h2:E<=64) (hc:chk l=true) (hs:szF E A l.length<=65536) :
    Calls Tryz.prog 134 #[.int .u8 p,.slice a l.length cap,.agg #[.int .i64 E,.bool A]] w fun e w'=>zcT w (zv E A p l) 0 e w'/\Nb w w':=by
 have hL:=h.len
 have hlen:=z1h hc
 have hbit:=zH (z0C hc)
 have H:=zH h
 have HC:=zH hc
 obtain⟨N,hN⟩:∃N,N=szF E A l.length:=⟨_,rfl⟩
 rw[<- hN]at hs
 have HN:=zH hN
 have hmp:∀W:World,Blk (W.alloc (.cells #[.int .i64 E,.bool A] 189)) W.heap.size _ _:=fun W=>Blk.new W _ _
 have HMP:=zH hmp
 have hm:∀w,(Instr.makeSlice 35 (.int .i64 0) (.int .i64 (N:Int))).run Tryz.prog w = .ok (.slice (some ⟨w.heap.size,0,none⟩) 0 N) (w.alloc (.cells (madeCells #[.int .u8 0] N) 5)):=fun w=>z33 w _ (by omega)
 have hmade:=fun w=>z04.made w N (by omega)
 have HMd:=zH hmade
 clear h hc hmp hmade hN
 go_enter Tryz.func134,Tryz.ntmps134
 go_wp2_with fail
 refine(z6w p E A _ hp h1 h2).mono ?_
 rintro e w1 ⟨⟨R,rfl,hst,hR⟩,hnb⟩
 have hbw:=(HMP.out w).nb hnb
 have e0:w1.cell? ⟨w.heap.size,0,none⟩=some (.int .i64 E):=hbw.cell 0
 have e1:w1.cell? ⟨w.heap.size,1,none⟩=some (.bool A):=hbw.cell 1
 have hnb1:Nb w w1:=(Nb.rfl.al _).tr hnb
 have hR1:w.heap.size<=R:=by simp at hR;omega
 have HST:=zH hst
 clear hst hnb hR hbw
 go_wp2_with fail
 refine(z3g a cap l w1 (H.out.below hnb1) HC.out).mono ?_
 rintro e w2 ⟨rfl,rfl⟩
 go_wp2_with fail
 refine(zeN l.length E A w1 hlen h1 h2).mono ?_
 rintro e w2 ⟨rfl,hnb2⟩
 rw[<- HN.out]
 have hst2:=HST.out.keep (F:=fun _=>False) (Kp.ofNb hnb2) (by simp)
 have hRlt:R < w2.heap.size:=Blk.lt hst2
 have hst3:=hst2.keep (F:=fun _=>False) (Kp.alloc (o := .cells (madeCells #[.int .u8 0] N) 5)) (by simp)
 have hnb3:Nb w (w2.alloc (.cells (madeCells #[.int .u8 0] N) 5)):=(hnb1.tr hnb2).al _
 have hsz2:w.heap.size<=w2.heap.size:=(hnb1.tr hnb2).size
 have hfr3:zf w (w2.alloc (.cells (madeCells #[.int .u8 0] N) 5)) (.slice (some ⟨w2.heap.size,0,none⟩) 0 N) []:=⟨HMd.out w2,fun g hg=>by simp[Value.ownBlock]at hg;omega⟩
 have hne3:∀g,(Value.slice (some ⟨w2.heap.size,0,none⟩) 0 N).ownBlock=some g->g≠R:=fun g hg=>by simp[Value.ownBlock]at hg;omega
 have S3:=zH hst3
 have N3:=zH hnb3
 have F3:=zH hfr3
 have NE3:=zH hne3
 clear hst2 hst3 hnb3 hfr3 hne3 HST hnb1 hnb2 e0 e1
 go_wp2
 go_loopw [11,44] (fun v i wr=>∃k:Nat,k<=l.length/\i = .int .i64 k/\StA wr R E (z66 E A k) (z1l p (zv E A p (l.take k))) (szF E A k)/\zf w wr v (zv E A p (l.take k))/\(∀g,v.ownBlock=some g->g≠R)/\Nb w wr) (fun _ i _=>l.length - (intOf i).toNat)
 case atStart=>exact⟨0,Nat.zero_le _,rfl,S3.out,F3.out,NE3.out,N3.out⟩
 case round =>
  obtain⟨k,hk,rfl,hst,hfr,hne,hnb⟩:=hrel
  clear S3 N3 F3 NE3
  by_cases hlt:k < l.length
  ·obtain⟨b,o,rfl,hcl⟩:=(H.out.below hnb).hcells (by omega)
   obtain⟨x,hx⟩:∃x,l[k]? = some x:=⟨l[k],by simp[hlt]⟩
   have c1:=hcl k hlt
   rw[show l.getD k 0=x from by simp[List.getD,hx]]at c1
   have hx1:=hbit.out x (List.mem_of_getElem? hx)
   have hbT:∀y∈l.take k,y<=1:=fun y hy=>hbit.out y (List.mem_of_mem_take hy)
   have hlast:=z58 hp (z2e (E:=E) (A:=A) (p:=p) hbT)
   have hsz:=z7i E A k
   have hss:=zaU (E:=E) A k
   have hls:=z6p h1 A k
   have hdd:=z5i h1 A k
   have hle:=zbi (E:=E) A k
   have hPl:=z1T (E:=E) A p (l.take k)
   have htl:(l.take k).length=k:=by rw[List.length_take];omega
   rw[htl]at hPl
   have htk:zv E A p (l.take (k+1))=if z2j E A k then zv E A p (l.take k)++[1 - z1l p (zv E A p (l.take k)),x]else zv E A p (l.take k)++[x]:=by
    rw[zX hx,z1L,htl]
   have hlt2:z1l p (zv E A p (l.take (k+1)))=x:=by
    rw[htk]
    split
    ·rw[show ∀q,zv E A p (l.take k)++[q,x]=(zv E A p (l.take k)++[q])++[x]from fun q=>by simp,z1M]
    ·rw[z1M]
   obtain⟨P',hPP⟩:∃P',zv E A p (l.take (k+1))=P':=⟨_,rfl⟩
   rw[hPP]at htk hlt2
   have HPP:=zH hPP
   clear hPP
   generalize zv E A p (l.take k)=P at *
   have hP:P.length<=140000:=by omega
   have hPs:szF E A k<=140000:=by omega
   clear htl hcl hbT hPl hx hsz
   obtain⟨aP,cP,rfl,-,-⟩:=hfr.1.bs
   cases hd:z2j E A k with
   | true =>
     rw[hd]at hss hls hdd htk
     simp only[if_true]at hss hls htk
     have HS:=zH hst
     have HSS:=zH hss
     have HLS:=zH hls
     have HDD:=zH hdd
     have HTK:=zH htk
     have HLT:=zH hlt2
     have HNB:=zH hnb
     have HFR:=zH hfr
     have HNE:=zH hne
     clear hst hss hls hdd hnb hd htk hlt2 hfr hne
     go_wp2_with fail
     refine(z3C R E _ _ _ wr HS.out).mono ?_
     rintro e w4 ⟨rfl,rfl⟩
     rw[HDD.out]
     go_wp2_with fail
     refine(z5C R E _ _ _ wr HS.out (by omega) hlast).mono ?_
     rintro e w4 ⟨rfl,hs4,hk4⟩
     have hfr4:zf w w4 (.slice aP P.length cP) P:=⟨HFR.out.1.keep hk4 (fun g hg h=>HNE.out g hg h),HFR.out.2⟩
     have hnb4:Nb w w4:=HNB.out.trans (hk4.toBelow HNB.out.size (fun k h=>by omega))
     obtain⟨q,hq⟩:∃q,q=1 - z1l p P:=⟨_,rfl⟩
     have hq1:q<=1:=by omega
     rw[<- hq]at hs4 HTK ⊢
     have hal:Kp (fun _=>False) w4 (w4.alloc (.cells #[.int .u8 (q:Int)] 5)):=Kp.alloc
     have hown:=hfr4.1.keep hal (by simp)
     have hs5:=hs4.keep hal (by simp)
     have hRw:R < w4.heap.size:=Blk.lt hs4
     have HS5:=zH hs5
     have HFR4:=zH hfr4
     have HNB4:=zH hnb4
     clear hs4 hs5 hfr4 hnb4 hk4 hq hal HS HFR HNB
     go_wp2_with (at_builtin;refine zd _ rfl (.tmp 50) (.tmp 53) rfl _ P rfl hown _ _ [q] 1 rfl rfl (Bs.one w4 q (by omega) _) (by simp) (by simp;omega) ?_)
     intro v5 w5 hown5 hk5 hf5
     have happ:=HFR4.out.app HNB4.out hown5 hk5 (by simpa using hf5)
     have hne5:∀g,v5.ownBlock=some g->g≠R:=fun g hg=>by
      rcases hf5 g hg with h | h
      ·exact HNE.out g h
      ·first | omega | (simp at h;omega)
     have hs6:=HS5.out.keep hk5 (fun h=>HNE.out R h rfl)
     have HS6:=zH hs6
     have HA5:=zH happ
     have HNE5:=zH hne5
     obtain⟨P2,hP2⟩:∃P2,P2=P++[q]:=⟨_,rfl⟩
     have hP2l:P2.length<=140001:=by rw[hP2];simp;omega
     have HTK2:Hid (P'=P2++[x]):=zH (by rw[HTK.out,hP2];simp)
     rw[<- hP2]at HA5 hown5
     obtain⟨a5,c5,rfl,-,-⟩:=hown5.bs
     clear hs6 happ hne5 hown5 hk5 hf5 hown HFR4 HNB4 HS5 HNE HTK hP2
     go_wp2_with fail
     refine(z2v R E E _ _ x w5 HS6.out (by omega) (by omega) h1 h2).mono ?_
     rintro e w6 ⟨rfl,hs7,hk7⟩
     have hfr7:zf w w6 (.slice a5 P2.length c5) P2:=⟨HA5.out.1.1.keep hk7 (fun g hg h=>HNE5.out g hg h),HA5.out.1.2⟩
     have hnb7:Nb w w6:=HA5.out.2.trans (hk7.toBelow HA5.out.2.size (fun k h=>by omega))
     have hal:Kp (fun _=>False) w6 (w6.alloc (.cells #[.int .u8 (x:Int)] 5)):=Kp.alloc
     have hown:=hfr7.1.keep hal (by simp)
     have hs8:=hs7.keep hal (by simp)
     have hRw2:R < w6.heap.size:=Blk.lt hs7
     have HS8:=zH hs8
     have HFR7:=zH hfr7
     have HNB7:=zH hnb7
     clear hs7 hs8 hfr7 hnb7 hk7 hal HS6 HA5
     go_wp2_with (at_builtin;refine zd _ rfl (.tmp 58) (.tmp 60) rfl _ P2 rfl hown _ _ [x] 1 rfl rfl (Bs.one w6 x (by omega) _) (by simp) (by simp;omega) ?_)
     intro v9 w9 hown9 hk9 hf9
     have happ:=HFR7.out.app HNB7.out hown9 hk9 (by simpa using hf9)
     have hne9:∀g,v9.ownBlock=some g->g≠R:=fun g hg=>by
      rcases hf9 g hg with h | h
      ·exact HNE5.out g h
      ·first | omega | (simp at h;omega)
     have hs10:=HS8.out.keep hk9 (fun h=>HNE5.out R h rfl)
     have HS10:=zH hs10
     have HA9:=zH happ
     have HNE9:=zH hne9
     clear hs10 happ hne9 hown9 hk9 hf9 hown HFR7 HNB7 HS8 HNE5
     go_wp2
     go_roundw
     case rel=>exact⟨k+1,by omega,by go_num,by rw[HPP.out,HSS.out,HLS.out,HLT.out];exact HS10.out,by rw[HPP.out,HTK2.out];exact HA9.out.1,HNE9.out,HA9.out.2⟩
     case measure=>simp[intOf];omega
   | false =>
     have hpos:=z8R h1 hd
     rw[hd]at hss hls hdd htk
     simp only[Bool.false_eq_true,if_false,Nat.add_zero]at hss hls htk
     have HS:=zH hst
     have HSS:=zH hss
     have HLS:=zH hls
     have HDD:=zH hdd
     have HTK:=zH htk
     have HLT:=zH hlt2
     have HNB:=zH hnb
     have HFR:=zH hfr
     have HNE:=zH hne
     clear hst hss hls hdd hnb hd htk hlt2 hfr hne
     go_wp2_with fail
     refine(z3C R E _ _ _ wr HS.out).mono ?_
     rintro e w4 ⟨rfl,rfl⟩
     rw[HDD.out]
     go_wp2_with fail
     refine(z2v R E _ _ _ x wr HS.out (by omega) (by omega) hpos (by omega)).mono ?_
     rintro e w6 ⟨rfl,hs7,hk7⟩
     have hfr7:zf w w6 (.slice aP P.length cP) P:=⟨HFR.out.1.keep hk7 (fun g hg h=>HNE.out g hg h),HFR.out.2⟩
     have hnb7:Nb w w6:=HNB.out.trans (hk7.toBelow HNB.out.size (fun k h=>by omega))
     have hal:Kp (fun _=>False) w6 (w6.alloc (.cells #[.int .u8 (x:Int)] 5)):=Kp.alloc
     have hown:=hfr7.1.keep hal (by simp)
     have hs8:=hs7.keep hal (by simp)
     have hRw2:R < w6.heap.size:=Blk.lt hs7
     have HS8:=zH hs8
     have HFR7:=zH hfr7
     have HNB7:=zH hnb7
     clear hs7 hs8 hfr7 hnb7 hk7 hal HS HFR HNB
     go_wp2_with (at_builtin;refine zd _ rfl (.tmp 58) (.tmp 60) rfl _ P rfl hown _ _ [x] 1 rfl rfl (Bs.one w6 x (by omega) _) (by simp) (by simp;omega) ?_)
     intro v9 w9 hown9 hk9 hf9
     have happ:=HFR7.out.app HNB7.out hown9 hk9 (by simpa using hf9)
     have hne9:∀g,v9.ownBlock=some g->g≠R:=fun g hg=>by
      rcases hf9 g hg with h | h
      ·exact HNE.out g h
      ·first | omega | (simp at h;omega)
     have hs10:=HS8.out.keep hk9 (fun h=>HNE.out R h rfl)
     have HS10:=zH hs10
     have HA9:=zH happ
     have HNE9:=zH hne9
     clear hs10 happ hne9 hown9 hk9 hf9 hown HFR7 HNB7 HS8 HNE
     go_wp2
     go_roundw
     case rel=>exact⟨k+1,by omega,by go_num,by rw[HPP.out,HSS.out,HLS.out,HLT.out];exact HS10.out,by rw[HPP.out,HTK.out];exact HA9.out.1,HNE9.out,HA9.out.2⟩
     case measure=>simp[intOf];omega
  ·obtain rfl:k=l.length:=by omega
   rw[List.take_of_length_le (Nat.le_refl _)]at hfr
   obtain⟨aP,cP,rfl,-,-⟩:=hfr.1.bs
   have HFR:=zH hfr
   clear hst hne hfr
   go_wp2
   go_ret2
   exact⟨⟨_,_,rfl,HFR.out⟩,hnb⟩
theorem ziR (n size:Nat) (w:World) (hs:size<=64) (hn:n < 2^size) :
    Calls Tryz.prog 172 #[.int .u64 n,.int .i64 size] w fun e w'=>zcT w (zc n size) 0 e w'/\Nb w w':=by
 have hn64:n < 2^64:=Nat.lt_of_lt_of_le hn (Nat.pow_le_pow_right (by omega) hs)
 have hsh:((n:Int) / 2^size != 0)=false:=by
  have:((n:Int) / 2^size)=((n / 2^size:Nat):Int):=by push_cast;rfl
  rw[this,Nat.div_eq_of_lt hn];rfl
 have d1:decide ((size:Int) < 0)=false:=by simp
 have d2:decide (64 < (size:Int))=false:=by simp;omega
 have HN:=zH hn64
 clear hn hn64
 go_enter Tryz.func172,Tryz.ntmps172
 go_wp2_with fail
 refine(z4d size _ (by omega)).mono ?_
 rintro e w1 ⟨⟨g,c,rfl,ho,hg⟩,hnb⟩
 have hal:Kp (fun _=>False) w1 (w1.alloc (.cells #[.slice (some ⟨g,0,none⟩) 0 c] 242)):=Kp.alloc
 have hlt:=ho.lt (g:=g) rfl
 have hrow:z1k (w1.alloc (.cells #[.slice (some ⟨g,0,none⟩) 0 c] 242)) 242 w1.heap.size (.slice (some ⟨g,0,none⟩) 0 c) [] :=
  ⟨Blk.new _ _ _,ho.keep hal (by simp),by simp[Value.ownBlock];omega⟩
 have HR:=zH hrow
 clear hrow ho hal
 go_wp2_with fail
 refine(z2z w1.heap.size _ [] n size _ HR.out HN.out hs (by simp)).mono ?_
 rintro e w2 ⟨rfl,v2,hr2,hkp,hfo⟩
 have hfr:zf w w2 v2 ([]++zc n size):=⟨hr2.own,fun k hk=>by
  rcases hfo k (.inr hk)with h | h
  ·rcases h with rfl | h
   ·exact hnb.size
   ·simp[Value.ownBlock]at h;omega
  ·have:=hnb.size
   first | omega | (simp at h;omega)⟩
 obtain⟨a,cap,rfl,-,_⟩:=hr2.own.bs
 have c0:w2.cell? ⟨w1.heap.size,0,none⟩=_:=hr2.blk.cell 0
 have hnb2:Nb w w2:=(hnb.al _).trans (hkp.toBelow (Nat.le_trans hnb.size (by simp)) (by rintro k (rfl | hk);exact hnb.size;simp[Value.ownBlock]at hk;omega))
 rw[List.nil_append]at hfr c0
 have HFR:=zH hfr
 clear hr2 hkp hfr hfo
 go_wp2
 go_ret2
 exact⟨⟨_,_,rfl,HFR.out⟩,hnb2⟩
def tyE(n:Int):Nat:=if n < 0 then 2 else 0
def tyL(n:Int):List Nat:=if n < 0 then []else zw n.toNat
theorem zmf(r:Nat)(h:r < 8):bits BinOp.xor IntKind.u64 ((r:Int)*2) (r:Int)=(((2*r) ^^^ r:Nat):Int)/\((2*r) ^^^ r) < 2^4:=by
 rcases(by omega:r=0\/r=1\/r=2\/r=3\/r=4\/r=5\/r=6\/r=7)with rfl | rfl | rfl | rfl | rfl | rfl | rfl | rfl<;>decide +kernel
theorem z9I (n:Int) (w:World) (hw:(Lit.int .i64 n).wf=true) :
    Calls Tryz.prog 157 #[.int .i64 n] w fun e w'=>zcT w (tyL n) (tyE n) e w'/\Nb w w':=by
 by_cases h0:n < 0
 ·rw[show tyL n=[]from if_pos h0,show tyE n=2 from if_pos h0]
  go_enter Tryz.func157,Tryz.ntmps157
  go_wp2
  go_ret2
  exact⟨⟨_,_,rfl,zf.nil _ _⟩,Nb.rfl⟩
 ·rw[show tyL n=zw n.toNat from if_neg h0,show tyE n=0 from if_neg h0]
  obtain⟨m,rfl⟩:=Int.eq_ofNat_of_zero_le (by omega:0<=n)
  rw[Int.toNat_natCast]
  have hr:Int.tmod (m:Int) 8=((m%8:Nat):Int):=by rw[Int.tmod_eq_emod_of_nonneg (by omega)];push_cast;rfl
  have h8:=Nat.mod_lt m (show 0 < 8 by omega)
  have hty:zw m=zc ((2*(m%8)) ^^^ (m%8)) 4:=rfl
  obtain⟨g1,g2⟩:=zmf (m%8) h8
  rw[hty]
  generalize m%8=r at *
  obtain⟨x,hx⟩:∃x,x=(2*r) ^^^ r:=⟨_,rfl⟩
  rw[<- hx]at g1 g2 ⊢
  have HG:=zH g1
  clear hty hx
  clear g1
  go_enter Tryz.func157,Tryz.ntmps157
  go_wp2_with fail
  rw[HG.out]
  refine(ziR x 4 w (by omega) g2).mono ?_
  rintro e w1 ⟨⟨aA,cA,rfl,hf⟩,hnb⟩
  have HF:=zH hf
  clear hf
  go_wp2
  go_ret2
  exact⟨⟨_,_,rfl,HF.out⟩,hnb⟩
end Go.Proofs.YtplbmlpdefpplaaGreatDoor
