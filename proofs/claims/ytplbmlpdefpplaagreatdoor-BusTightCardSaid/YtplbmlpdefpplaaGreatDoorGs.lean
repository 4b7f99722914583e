/- Bits with stuff bits, and what they tell, as functions on lists, and more. Conditions: as each says. -/
import Derived.Test.YtplbmlpdefpplaaGreatDoorGa
set_option maxHeartbeats 1600000
set_option maxRecDepth 100000
namespace Go.Proofs.YtplbmlpdefpplaaGreatDoor
set_option linter.unusedVariables false
set_option linter.unusedSimpArgs false
open Go.RowKit
variable {l pre:List Nat} {b k:Nat} {w w' w0:World}
theorem zB{P:List Nat->Prop}(h0:P [])(hs:∀l b,P l->P (l++[b])):∀l,P l:=by
 intro l
 rw[<- List.reverse_reverse l]
 induction l.reverse with
 | nil=>exact h0
 | cons b l ih=>rw[List.reverse_cons];exact hs _ _ ih
def z1I(r:Nat × Nat)(b:Nat):Nat × Nat:=if b=r.1 then(r.1,r.2+1) else(b,1)
def zq(l:List Nat):Nat × Nat:=l.foldl z1I (0,0)
theorem z07(l:List Nat)(b:Nat):zq (l++[b])=z1I (zq l) b:=by simp[zq]
def full(l:List Nat):Bool:=decide (5<=(zq l).2)
def zl(l:List Nat):Nat:=(zq l).1
theorem z74:full []=false:=rfl
theorem z0I(l:List Nat)(b:Nat):zl (l++[b])=b:=by
 unfold zl
 rw[z07]
 unfold z1I
 split
 ·exact Eq.symm ‹_›
 ·rfl
theorem z4S(l:List Nat):(zq l).2<=l.length:=by
 refine zB (P:=fun l=>(zq l).2<=l.length) (by simp[zq]) (fun l b ih => ?_) l
 rw[z07]
 unfold z1I
 rw[List.length_append,List.length_singleton]
 split
 ·simp only;omega
 ·simp only;omega
theorem z1K(l:List Nat):zl l=l.getD (l.length - 1) 0:=by
 refine zB (P:=fun l=>zl l=l.getD (l.length - 1) 0) rfl (fun l b _ => ?_) l
 rw[z0I]
 simp
theorem zcI(l:List Nat):zj9 l (zq l).2:=by
 refine zB (P:=fun l=>zj9 l (zq l).2) ⟨by simp[zq],by simp,by simp[zq]⟩ (fun l b ih => ?_) l
 have hlast:=z1K l
 unfold zl at hlast
 obtain⟨h1,h2,h3⟩:=ih
 have hN:(l++[b]).length - 1=l.length:=by simp
 have hb:(l++[b]).getD l.length 0=b:=by simp
 have hl:∀j,j < l.length->(l++[b]).getD j 0=l.getD j 0:=fun j hj=>by
  simp[List.getD,List.getElem?_append_left hj]
 unfold zj9
 rw[hN,hb,z07]
 unfold z1I
 rw[List.length_append,List.length_singleton]
 by_cases he:b=(zq l).1
 ·rw[if_pos he]
  refine⟨by simp only;omega,fun j hj => ?_,fun hk => ?_⟩
  ·simp only at hj
   by_cases hj0:j=0
   ·subst hj0;simp
   ·rw[hl _ (by omega),show l.length - j=l.length - 1 - (j - 1)from by omega,h2 (j - 1) (by omega),<- hlast,<- he]
  ·simp only at hk ⊢
   rw[hl _ (by omega),show l.length - ((zq l).2+1)=l.length - 1 - (zq l).2 from by omega]
   have:=h3 (by omega)
   rwa[<- hlast,<- he]at this
 ·rw[if_neg he]
  refine⟨by simp only;omega,fun j hj => ?_,fun hk => ?_⟩
  ·simp only at hj
   obtain rfl:j=0:=by omega
   simp
  ·simp only at hk ⊢
   rw[hl _ (by omega)]
   rw[<- hlast]
   exact fun h=>he h.symm
theorem z75(l:List Nat):full l=true↔5<=l.length/\∀j,j < 5->l.getD (l.length - 1 - j) 0=l.getD (l.length - 1) 0:=by
 obtain⟨h1,h2,h3⟩:=zcI l
 unfold full
 rw[decide_eq_true_eq]
 constructor
 ·intro h
  exact⟨by omega,fun j hj=>h2 j (by omega)⟩
 ·rintro⟨h4,h5⟩
  by_cases hk:(zq l).2 < 5
  ·exact absurd (h5 _ hk) (h3 (by omega))
  ·omega
def z00(raw:List Nat)(b:Nat):List Nat:=if full raw then raw++[1 - zl raw,b]else raw++[b]
def zh(l:List Nat):List Nat:=l.foldl z00 []
theorem z0d(l:List Nat)(b:Nat):zh (l++[b])=z00 (zh l) b:=by simp[zh]
theorem z3P:zh []=[]:=rfl
theorem z1a(h:∀x∈l,x<=1):zl l<=1:=by
 rw[z1K]
 by_cases hl:l=[]
 ·subst hl;simp
 ·have hp:l.length - 1 < l.length:=by have:=List.length_pos_iff.2 hl;omega
  have:l[l.length - 1]? = some (l.getD (l.length - 1) 0):=by simp[List.getD,List.getElem?_eq_getElem hp]
  exact h _ (List.mem_of_getElem? this)
theorem z2i(h:zl l<=1):full (l++[1 - zl l])=false/\(zq (l++[1 - zl l])).2=1:=by
 have:(zq (l++[1 - zl l])).2=1:=by
  rw[z07]
  unfold z1I zl at *
  rw[if_neg (by omega)]
 exact⟨by unfold full;rw[this];rfl,this⟩
theorem z0j:(∀x∈l,x<=1)->∀x∈zh l,x<=1:=by
 refine zB (P:=fun l=>(∀x∈l,x<=1)->∀x∈zh l,x<=1) (by simp[zh]) (fun l b ih hl => ?_) l
 have ih:=ih (fun x hx=>hl x (by simp[hx]))
 have hb:=hl b (by simp)
 rw[z0d]
 unfold z00
 split
 ·intro x hx
  rcases List.mem_append.1 hx with h | h
  ·exact ih x h
  ·simp at h
   omega
 ·intro x hx
  rcases List.mem_append.1 hx with h | h
  ·exact ih x h
  ·simp at h
   omega
theorem zr(l:List Nat):(zh l).length<=2*l.length/\l.length<=(zh l).length:=by
 refine zB (P:=fun l=>(zh l).length<=2*l.length/\l.length<=(zh l).length) (by simp[zh]) (fun l b ih => ?_) l
 rw[z0d]
 unfold z00
 split<;>simp<;>omega
def z3V(s:(Nat × Nat) × List Nat)(b:Nat):(Nat × Nat) × List Nat:=(z1I s.1 b,if 5<=s.1.2 then s.2 else s.2++[b])
def zo(l:List Nat):List Nat:=(l.foldl z3V ((0,0),[])).2
theorem zhJ(l:List Nat):(l.foldl z3V ((0,0),[])).1=zq l:=by
 refine zB (P:=fun l=>(l.foldl z3V ((0,0),[])).1=zq l) rfl (fun l b ih => ?_) l
 rw[z07,<- ih]
 simp[z3V]
theorem z0o(l:List Nat)(b:Nat):zo (l++[b])=if full l then zo l else zo l++[b]:=by
 have h:=zhJ l
 unfold zo full
 rw[<- h]
 simp[z3V]
theorem z1H(l:List Nat):(zo l).length<=l.length:=by
 refine zB (P:=fun l=>(zo l).length<=l.length) (by simp[zo]) (fun l b ih => ?_) l
 rw[z0o]
 split<;>simp<;>omega
theorem z3b:(∀x∈l,x<=1)->∀x∈zo l,x<=1:=by
 refine zB (P:=fun l=>(∀x∈l,x<=1)->∀x∈zo l,x<=1) (by simp[zo]) (fun l b ih hl => ?_) l
 have ih:=ih (fun x hx=>hl x (by simp[hx]))
 have hb:=hl b (by simp)
 rw[z0o]
 split
 ·exact ih
 ·intro x hx
  rcases List.mem_append.1 hx with h | h
  ·exact ih x h
  ·simp at h
   omega
def z0O(l:List Nat):Bool := !l.isEmpty&&full l.dropLast
theorem z2d(l:List Nat)(b:Nat):z0O (l++[b])=full l:=by simp[z0O]
def z7R(s:(Nat × Nat) × Bool)(b:Nat):(Nat × Nat) × Bool:=(z1I s.1 b,s.2 && !(decide (5<=s.1.2)&&b==s.1.1))
def okS(l:List Nat):Bool:=(l.foldl z7R ((0,0),true)).2
theorem ziC(l:List Nat):(l.foldl z7R ((0,0),true)).1=zq l:=by
 refine zB (P:=fun l=>(l.foldl z7R ((0,0),true)).1=zq l) rfl (fun l b ih => ?_) l
 rw[z07,<- ih]
 simp[z7R]
theorem z1b(l:List Nat)(b:Nat):okS (l++[b])=(okS l && !(full l&&b==zl l)):=by
 have h:=ziC l
 unfold okS full zl
 rw[<- h]
 simp[z7R]
theorem zbf(m:List Nat):okS (l++m)=true->okS l=true:=by
 refine zB (P:=fun m=>okS (l++m)=true->okS l=true) (by simp) (fun m b ih h => ?_) m
 rw[<- List.append_assoc,z1b]at h
 simp at h
 exact ih h.1
theorem z4V(h:okS l=true)(k:Nat):okS (l.take k)=true:=by
 rw[<- List.take_append_drop k l]at h
 exact zbf _ h
theorem z3r:okS l=true->(zq l).2<=5:=by
 refine zB (P:=fun l=>okS l=true->(zq l).2<=5) (by simp[zq]) (fun l b ih h => ?_) l
 rw[z1b]at h
 simp only[Bool.and_eq_true,Bool.not_eq_true',Bool.and_eq_false_iff,beq_eq_false_iff_ne]at h
 obtain⟨h1,h2⟩:=h
 have h3:=ih h1
 rw[z07]
 unfold z1I
 split
 ·rename_i he
  rcases h2 with h2 | h2
  ·simp[full]at h2
   simp only
   omega
  ·exact absurd he h2
 ·simp
theorem z2q:(∀x∈l,x<=1)->okS (zh l)=true:=by
 refine zB (P:=fun l=>(∀x∈l,x<=1)->okS (zh l)=true) (by simp[zh,okS]) (fun l b ih hl => ?_) l
 have hl':∀x∈l,x<=1:=fun x hx=>hl x (by simp[hx])
 have ih:=ih hl'
 have h1:=z1a (z0j hl')
 rw[z0d]
 unfold z00
 split
 ·rw[show zh l++[1 - zl (zh l),b]=(zh l++[1 - zl (zh l)])++[b]from by simp,z1b,z1b,(z2i h1).1,ih]
  simp
  omega
 ·rw[z1b,ih]
  simp[*]
theorem z1w:(∀x∈l,x<=1)->zo (zh l)=l/\z0O (zh l)=false:=by
 refine zB (P:=fun l=>(∀x∈l,x<=1)->zo (zh l)=l/\z0O (zh l)=false) (by simp[zh,zo,z0O]) (fun l b ih hl => ?_) l
 have hl':∀x∈l,x<=1:=fun x hx=>hl x (by simp[hx])
 have ih:=(ih hl').1
 have h1:=z1a (z0j hl')
 rw[z0d]
 unfold z00
 split
 ·rename_i hf
  rw[show zh l++[1 - zl (zh l),b]=(zh l++[1 - zl (zh l)])++[b]from by simp,z0o,z0o,z2d,(z2i h1).1,hf,ih]
  simp
 ·rename_i hf
  rw[z0o,z2d,ih]
  simp[hf]
def z0K(n:Nat):List Nat->List Nat->List Nat × Bool
 | pre,[]=>(pre,false)
 | pre,b::rest=>if(zo pre).length=n then(pre,false)else if(full pre&&b==zl pre)=true then(pre,true)else z0K n (pre++[b]) rest
theorem z9s(n:Nat):∀(rest pre:List Nat),(pre++rest).length<=n->okS pre=true->if okS (pre++rest)then z0K n pre rest=(pre++rest,false) else(z0K n pre rest).2=true:=by
 intro rest
 induction rest with
 | nil=>intro pre _ ho;simp[z0K,ho]
 | cons b rest ih =>
   intro pre hn ho
   have hlt:pre.length < n:=by simp at hn;omega
   have:=z1H pre
   have hne:¬(zo pre).length=n:=by omega
   have e:z0K n pre (b::rest)=if(full pre&&b==zl pre)=true then(pre,true)else z0K n (pre++[b]) rest:=by rw[z0K,if_neg hne]
   rw[e]
   by_cases hx:(full pre&&b==zl pre)=true
   ·rw[if_pos hx]
    have:okS (pre++b::rest)=false:=by
     cases hq:okS (pre++b::rest) with
     | false=>rfl
     | true =>
       rw[show pre++b::rest=(pre++[b])++rest from by simp]at hq
       have:=zbf _ hq
       rw[z1b,hx]at this
       simp at this
    simp[this]
   ·rw[if_neg hx]
    have hx':(full pre&&b==zl pre)=false:=by simpa using hx
    have:=ih (pre++[b]) (by simpa using hn) (by rw[z1b,ho,hx'];rfl)
    simpa using this
theorem z8i(l:List Nat):if okS l then z0K l.length [] l=(l,false) else(z0K l.length [] l).2=true:=by
 have:=z9s l.length l [] (by simp) rfl
 simpa using this
theorem zdd(l:List Nat):∀raw:List Nat,∃Y,l.foldl z00 raw=raw++Y:=by
 induction l with
 | nil=>intro raw;exact⟨[],by simp⟩
 | cons b l ih =>
   intro raw
   obtain⟨Y,hY⟩:=ih (z00 raw b)
   rw[List.foldl_cons,hY]
   unfold z00
   split
   ·exact⟨[1 - zl raw,b]++Y,by simp⟩
   ·exact⟨[b]++Y,by simp⟩
theorem z1g(l m:List Nat):∃Y,zh (l++m)=zh l++Y:=by
 obtain⟨Y,hY⟩:=zdd m (zh l)
 exact⟨Y,by rw[<- hY];simp[zh]⟩
theorem ze0 (k:Nat) (more:List Nat):∀(l2 l1 X:List Nat),(∀x∈l1++l2,x<=1)->zh l1++X=zh (l1++l2)++more->l1.length<=k->(k<=(l1++l2).length\/more=[]) ->
    z0K k (zh l1) X=(zh ((l1++l2).take k),false):=by
 intro l2
 induction l2 with
 | nil =>
   intro l1 X hb hX h1 h2
   rw[List.append_nil]at *
   have hXm:X=more:=List.append_cancel_left hX
   subst hXm
   rw[List.take_of_length_le h1]
   rcases h2 with h2 | rfl
   ·cases X with
    | nil=>rfl
    | cons x X =>
      unfold z0K
      rw[(z1w hb).1,if_pos (by omega)]
   ·rfl
 | cons b l2 ih =>
   intro l1 X hb hX h1 h2
   have hb1:∀x∈l1,x<=1:=fun x hx=>hb x (by simp[hx])
   have ht:=(z1w hb1).1
   by_cases hk:l1.length=k
   ·rw[List.take_append_of_le_length (by omega),List.take_of_length_le (by omega)]
    cases X with
    | nil=>rfl
    | cons x X =>
      unfold z0K
      rw[ht,if_pos hk]
   ·have hl:=z1a (z0j hb1)
    have e1:l1++b::l2=(l1++[b])++l2:=by simp
    obtain⟨Y,hY⟩:=z1g (l1++[b]) l2
    have IH:=ih (l1++[b]) (Y++more) (by rw[<- e1];exact hb) (by rw[hY];simp) (by simp;omega) (by rw[<- e1];exact h2)
    rw[<- e1]at IH
    rw[e1,hY,z0d]at hX
    rw[z0d]at IH
    rw[<- IH]
    unfold z00 at hX ⊢
    cases hf:full (zh l1) with
    | true =>
      rw[hf]at hX
      simp only[if_true]at hX ⊢
      have hXX:X=(1 - zl (zh l1))::b::(Y++more):=by
       have:zh l1++X=zh l1++((1 - zl (zh l1))::b::(Y++more)):=by rw[hX];simp
       exact List.append_cancel_left this
      subst hXX
      have hne:((1 - zl (zh l1))==zl (zh l1))=false:=by rw[beq_eq_false_iff_ne];omega
      have hto:=z0o (zh l1) (1 - zl (zh l1))
      rw[hf,if_pos rfl,ht]at hto
      rw[z0K,ht,if_neg hk,hne,Bool.and_false,if_neg (by simp),z0K,hto,if_neg hk,(z2i hl).1,Bool.false_and,if_neg (by simp)]
      simp
    | false =>
      rw[hf]at hX
      simp only[Bool.false_eq_true,if_false]at hX ⊢
      have hXX:X=b::(Y++more):=by
       have:zh l1++X=zh l1++(b::(Y++more)):=by rw[hX];simp
       exact List.append_cancel_left this
      subst hXX
      rw[z0K,ht,if_neg hk,hf,Bool.false_and,if_neg (by simp)]
theorem z9D(hl:∀x∈l,x<=1)(more:List Nat)(hk:k<=l.length):z0K k [] (zh l++more)=(zh (l.take k),false):=by
 have:=ze0 k more l [] (zh l++more) (by simpa using hl) (by simp[z3P]) (by simp) (by simp;omega)
 simpa [z3P]using this
def spE(l:List Nat):Nat:=if chk l then(if(zh l).length<=65536 then 0 else 2)else 2
def spL(l:List Nat):List Nat:=if chk l then(if(zh l).length<=65536 then zh l else [])else []
def sgE(l:List Nat):Nat:=if chk l then(if okS l then(if z0O l then 7 else 0)else 4)else 2
def sgL(l:List Nat):List Nat:=if chk l then(if okS l then(if z0O l then []else zo l)else [])else []
def scE(l:List Nat):Nat:=if chk l then(if okS l then 0 else 4)else 2
def scN(l:List Nat):Nat:=if chk l then(if okS l then l.length - (zo l).length else 0)else 0
def upd(cs:Array Value)(r:Nat × Nat):Array Value:=(cs.setIfInBounds 0 (.int .u8 r.1)).setIfInBounds 1 (.int .i64 r.2)
theorem z2r (R:Nat) (cs:Array Value) (t:TypeId) (of size:Nat) (w:World) (hb:Blk w R cs t) (h1:cs[1]? = some (.int .i64 size)) :
    Calls Tryz.prog 192 #[.pointer (some ⟨R,0,none⟩)] w fun e w'=>e = .returned (.bool (decide (size=5)))/\w=w':=by
 have c1:w.cell? ⟨R,1,none⟩=some (.int .i64 size):=(hb.cell 1).trans h1
 have he:((size:Int)==5)=decide (size=5):=by
  rw[Bool.eq_iff_iff];simp;omega
 have HE:=zH he
 clear he
 go_enter Tryz.func192,Tryz.ntmps192
 go_wp2
 go_ret
 exact⟨congrArg (fun x=>Ending.returned (Value.bool x)) HE.out,rfl⟩
theorem z4g (R:Nat) (cs:Array Value) (t:TypeId) (of size x:Nat) (w:World) (hb:Blk w R cs t) (h0:cs[0]? = some (.int .u8 of)) (h1:cs[1]? = some (.int .i64 size)) (hs:size < 70368744177664) :
    Calls Tryz.prog 206 #[.pointer (some ⟨R,0,none⟩),.int .u8 x] w fun e w'=>e = .returned (.tuple #[])/\Blk w' R (upd cs (z1I (of,size) x)) t/\Kp (·=R) w w':=by
 have c0:w.cell? ⟨R,0,none⟩=some (.int .u8 of):=(hb.cell 0).trans h0
 have c1:w.cell? ⟨R,1,none⟩=some (.int .i64 size):=(hb.cell 1).trans h1
 have f0:=hb.frozen 0
 have f1:=hb.frozen 1
 by_cases hx:x=of
 ·subst hx
  have hd:((x:Int) != (x:Int))=false:=by simp
  have hfin:=hb.set 1 (.int .i64 ((size:Int)+1))
  have he:cs.setIfInBounds 1 (.int .i64 ((size:Int)+1))=upd cs (z1I (x,size) x):=by
   unfold upd z1I
   rw[if_pos rfl]
   apply Array.ext_getElem?
   intro i
   by_cases hi:i=1
   ·subst hi;simp[Array.getElem?_setIfInBounds]
   ·by_cases hi0:i=0
    ·subst hi0
     obtain⟨q,hq⟩:=Array.getElem?_eq_some_iff.1 h0
     simp[Array.getElem?_setIfInBounds,q,hq]
    ·simp[Array.getElem?_setIfInBounds,Ne.symm hi,Ne.symm hi0]
  rw[he]at hfin
  have HF:=zH hfin
  clear hfin he hb h0 h1
  go_enter Tryz.func206,Tryz.ntmps206
  go_wp2
  go_end0
  exact⟨rfl,HF.out,Kp.set rfl⟩
 ·have hd:((x:Int) != (of:Int))=true:=by rw[bne_iff_ne];omega
  have he:z1I (of,size) x=(x,1):=by unfold z1I;rw[if_neg hx]
  rw[he]
  have hfin:=((hb.set 0 (.int .u8 (x:Int))).set 1 (.int .i64 0)).set 1 (.int .i64 1)
  have he2:((cs.setIfInBounds 0 (.int .u8 (x:Int))).setIfInBounds 1 (.int .i64 0)).setIfInBounds 1 (.int .i64 1)=upd cs (x,1):=by
   unfold upd
   rw[Array.setIfInBounds_setIfInBounds]
   rfl
  rw[he2]at hfin
  have hkp:Kp (·=R) w (((w.setCell ⟨R,0,none⟩ (.int .u8 (x:Int))).setCell ⟨R,1,none⟩ (.int .i64 0)).setCell ⟨R,1,none⟩ (.int .i64 1)):=((Kp.set (F:=(·=R)) rfl).tr (Kp.set (F:=(·=R)) rfl) (fun k h => .inl h)).tr (Kp.set (F:=(·=R)) rfl) (fun k h => .inl h)
  have HF:=zH hfin
  have HK:=zH hkp
  clear hfin he he2 hb h0 h1 hkp
  go_enter Tryz.func206,Tryz.ntmps206
  go_wp2
  go_end0
  exact⟨rfl,HF.out,HK.out⟩
theorem z49 (F:Nat) (p:Value) (a:Option Addr) (cap:Nat) (l:List Nat) (I J:Nat->World->Prop) (w:World) (hL:l.length<=9223372036854775807) (h0:I 0 w)
    (hbs:∀k w,I k w->Bs w a cap l)
    (hcf:∀args w,(callFunc F args).run Tryz.prog w = .ok (.enter F args) w)
    (hstep:∀k x w,I k w->l[k]? = some x->Calls Tryz.prog F #[p,.int .u8 (x:Int)] w fun e w'=>(e = .returned (.bool true)/\I (k+1) w')\/(e = .returned (.bool false)/\J k w')) :
    Calls Tryz.prog 176 #[.slice a l.length cap,.func (.func F) #[p] #[]] w fun e w'=>∃k:Nat,e = .returned (.int .i64 k)/\((k=l.length/\I k w')\/(k < l.length/\J k w')):=by
 have HB:=zH hbs
 have HS:=zH hstep
 clear hbs hstep
 go_enter Tryz.func176,Tryz.ntmps176
 go_wp2
 go_loopw [9] (fun i wr=>∃k:Nat,k<=l.length/\i = .int .i64 k/\I k wr) (fun i _=>l.length - (intOf i).toNat)
 case atStart=>exact⟨0,Nat.zero_le _,rfl,h0⟩
 case round =>
  obtain⟨k,hk,rfl,hI⟩:=hrel
  by_cases hlt:k < l.length
  ·obtain⟨b,o,rfl,hc⟩:=(HB.out k wr hI).hcells (by omega)
   obtain⟨x,hx⟩:∃x,l[k]? = some x:=⟨l[k],by simp[hlt]⟩
   have c1:=hc k hlt
   rw[show l.getD k 0=x from by simp[List.getD,hx]]at c1
   have HX:=zH hx
   clear hc hx
   go_wp2_with fail
   refine(HS.out k x wr hI HX.out).mono ?_
   rintro e w' (⟨rfl,hI'⟩ | ⟨rfl,hJ⟩)
   ·go_wp2
    go_roundw
    case rel=>exact⟨k+1,by omega,by go_num,hI'⟩
    case measure=>simp[intOf];omega
   ·go_wp2
    go_ret
    exact⟨k,rfl,.inr ⟨hlt,hJ⟩⟩
  ·obtain rfl:k=l.length:=by omega
   go_wp2
   go_ret
   exact⟨l.length,rfl,.inl ⟨rfl,hI⟩⟩
structure zkU(w:World)(R:Nat)(v:Value)(l:List Nat):Prop where
 blk:Blk w R #[.int .u8 (zq l).1,.int .i64 (zq l).2,v] 226
 own:z04 w v l
 ne:v.ownBlock≠some R
def z5p(w:World)(R:Nat)(v:Value)(l:List Nat)(w':World):Prop :=
 ∃v',zkU w' R v' l/\Kp (fun k=>k=R\/v.ownBlock=some k) w w'/\∀k,(k=R\/v'.ownBlock=some k)->(k=R\/v.ownBlock=some k)\/w.heap.size<=k
theorem z5X (R:Nat) (v:Value) (l:List Nat) (x:Nat) (w:World) (h:zkU w R v l) (hx:x < 256) (hl:l.length < 70368744177664) :
    Calls Tryz.prog 193 #[.pointer (some ⟨R,0,none⟩),.int .u8 x] w fun e w'=>e = .returned (.tuple #[])/\z5p w R v (l++[x]) w':=by
 have hrl:=z4S l
 have hRlt:=h.blk.lt
 have hadd:=z4g R _ _ (zq l).1 (zq l).2 x w h.blk rfl rfl (by omega)
 have hrs:z1I ((zq l).1,(zq l).2) x=zq (l++[x]):=(z07 l x).symm
 rw[hrs]at hadd
 have hup:upd #[.int .u8 (zq l).1,.int .i64 (zq l).2,v] (zq (l++[x]))=#[.int .u8 (zq (l++[x])).1,.int .i64 (zq (l++[x])).2,v]:=rfl
 rw[hup]at hadd
 have HO:=zH h.own
 have hne:=h.ne
 have HA:=zH hadd
 clear hadd hup hrs h
 go_enter Tryz.func193,Tryz.ntmps193
 go_wp2_with fail
 refine HA.out.mono ?_
 rintro e w0 ⟨rfl,hb0,hk0⟩
 have hown0:=HO.out.keep hk0 (fun g hg h=>hne (h ▸ hg))
 have hal:Kp (fun _=>False) w0 (w0.alloc (.cells #[.int .u8 (x:Int)] 5)):=Kp.alloc
 have hown:=hown0.keep hal (by simp)
 have hbl:=hb0.keep hal (by simp)
 have c0:w0.cell? ⟨R,2,none⟩=some v:=hb0.cell 2
 have f0:=hb0.frozen 2
 go_wp2_with (at_builtin;refine zd _ rfl (.tmp 13) (.tmp 15) rfl v l rfl hown _ _ [x] 1 rfl rfl (Bs.one w0 x hx _) (by simp) (by simp;omega) ?_)
 intro v' w1 hown' hk hfr
 obtain⟨g,cap,rfl⟩:=hown'.shape (by simp)
 have hbl':=hbl.keep hk hne
 have hs0:=hk0.size
 have hg:g≠R:=by
  rintro rfl
  rcases hfr g rfl with h1 | h1
  ·exact hne h1
  ·have:=hal.size;omega
 have c1:w1.cell? ⟨R,2,none⟩=some v:=hbl'.cell 2
 have f1:=hbl'.frozen 2
 have hfin:z5p w R v (l++[x]) (w1.setCell ⟨R,2,none⟩ (.slice (some ⟨g,0,none⟩) (l++[x]).length cap)):=by
  refine⟨_,⟨hbl'.set 2 _,hown'.keep (Kp.set (F:=(·=R)) rfl) (by simpa [Value.ownBlock]using hg),by simpa [Value.ownBlock]using hg⟩,?_,?_⟩
  ·have k0:Kp (fun k=>k=R\/v.ownBlock=some k) w w0:=hk0.mono (fun k _ h => .inl h)
   exact((k0.tr (hal.mono (F':=fun k=>k=R\/v.ownBlock=some k) (fun _ _ h=>h.elim)) (fun k h => .inl h)).tr (hk.mono (F':=fun k=>k=R\/v.ownBlock=some k) (fun k _ h => .inr h)) (fun k h => .inl h)).tr (Kp.set (F:=(·=R)) rfl) (fun k h => .inl (.inl h))
  ·rintro k (rfl | hk)
   ·exact .inl (.inl rfl)
   ·rcases hfr k hk with h1 | h1
    ·exact .inl (.inr h1)
    ·have:=hal.size
     exact .inr (by omega)
 clear hown' hk hfr hbl' hal hown hbl hown0 hb0
 go_wp2
 go_end0
 exact⟨rfl,by simpa using hfin⟩
theorem z5p.tr{w w1 w2:World}{R:Nat}{v v1:Value}{l':List Nat}(hk:Kp (fun k=>k=R\/v.ownBlock=some k) w w1)(hf:∀k,(k=R\/v1.ownBlock=some k)->(k=R\/v.ownBlock=some k)\/w.heap.size<=k)(h2:z5p w1 R v1 l' w2):z5p w R v l' w2:=by
 obtain⟨v2,ha2,hk2,hf2⟩:=h2
 refine⟨v2,ha2,hk.tr hk2 hf,fun j hj => ?_⟩
 rcases hf2 j hj with h1 | h1
 ·exact hf j h1
 ·exact .inr (Nat.le_trans hk.size h1)
theorem zcj (R:Nat) (v:Value) (l:List Nat) (x:Nat) (w:World) (h:zkU w R v l) (hb:∀y∈l,y<=1) (hr:(zq l).2<=5) (hx:x<=1) (hl:l.length < 70368744170000) :
    Calls Tryz.prog 177 #[.pointer (some ⟨R,0,none⟩),.int .u8 x] w fun e w'=>e = .returned (.bool true)/\z5p w R v (z00 l x) w':=by
 have hlast:=z1a hb
 have hfull:=z2r R _ _ (zq l).1 (zq l).2 w h.blk rfl
 have c0:w.cell? ⟨R,0,none⟩=some (.int .u8 (zl l)):=h.blk.cell 0
 have H:=zH h
 cases hf:full l with
 | true =>
   have h5:(zq l).2=5:=by
    have:5<=(zq l).2:=by simpa [full]using hf
    omega
   have e1:z00 l x=(l++[1 - zl l])++[x]:=by unfold z00;rw[hf];simp
   rw[e1]
   rw[h5]at hfull
   have HF:=zH hfull
   have hsub:(1:Int) - (zl l:Int)=((1 - zl l:Nat):Int):=by omega
   have HS:=zH hsub
   clear hfull hf h5 e1 h hb hr hsub
   generalize zl l=q at *
   go_enter Tryz.func177,Tryz.ntmps177
   go_wp2_with fail
   refine HF.out.mono ?_
   rintro e w0 ⟨rfl,rfl⟩
   go_wp2_with fail
   rw[HS.out]
   refine(z5X R v l (1 - q) w H.out (by omega) (by omega)).mono ?_
   rintro e w1 ⟨rfl,hs1⟩
   obtain⟨v1,ha1,hk1,hf1⟩:=hs1
   go_wp2_with fail
   refine(z5X R v1 (l++[1 - q]) x w1 ha1 (by omega) (by simp;omega)).mono ?_
   rintro e w2 ⟨rfl,hs2⟩
   go_wp2
   go_ret
   exact⟨rfl,z5p.tr hk1 hf1 hs2⟩
 | false =>
   have h5:decide ((zq l).2=5)=false:=by
    have:¬5<=(zq l).2:=by simpa [full]using hf
    simp
    omega
   have e1:z00 l x=l++[x]:=by unfold z00;rw[hf];simp
   rw[e1]
   rw[h5]at hfull
   have HF:=zH hfull
   clear hfull hf h5 e1 h hb hr
   generalize zl l=q at *
   go_enter Tryz.func177,Tryz.ntmps177
   go_wp2_with fail
   refine HF.out.mono ?_
   rintro e w0 ⟨rfl,rfl⟩
   go_wp2_with fail
   refine(z5X R v l x w H.out (by omega) (by omega)).mono ?_
   rintro e w1 ⟨rfl,hs1⟩
   go_wp2
   go_ret
   exact⟨rfl,hs1⟩
theorem zdZ (a:Option Addr) (cap:Nat) (l:List Nat) (w:World) (h:Bs w a cap l) (hc:chk l=true) (er:Nat) (out:List Nat) (ho:((zh l).length<=65536/\er=0/\out=zh l)\/(65536 < (zh l).length/\er=2/\out=[])) :
    Calls Tryz.prog 152 #[.slice a l.length cap] w fun e w'=>zcT w out er e w'/\Nb w w':=by
 have hL:=h.len
 have hlen:=z1h hc
 have hbit:=zH (z0C hc)
 have HC:=zH hc
 have H:=zH h
 have HO:=zH ho
 obtain⟨q,hq⟩:∃q,q=l.length / 4:=⟨_,rfl⟩
 have h4:((l.length:Int) / 4)=(q:Int):=by rw[hq];push_cast;rfl
 have hq2:q<=16384:=by omega
 have hq3:((l.length:Int)+(q:Int))=((l.length+q:Nat):Int):=by push_cast;rfl
 have hmf:∀(fn:Fn) (first cap:Array Value) (w:World),(Instr.makeFunc fn first cap).run Tryz.prog w = .ok (.func fn first cap) w:=fun _ _ _ _=>rfl
 have hm:∀w,(Instr.makeSlice 35 (.int .i64 0) (.int .i64 ((l.length:Int)+(q:Int)))).run Tryz.prog w = .ok (.slice (some ⟨w.heap.size,0,none⟩) 0 (l.length+q)) (w.alloc (.cells (madeCells #[.int .u8 0] (l.length+q)) 5)):=fun w=>by rw[hq3];exact z33 w _ (by omega)
 have hmade:=fun w=>z04.made w (l.length+q) (by omega)
 have HMd:=zH hmade
 clear h hc ho hmade hq hq3
 go_enter Tryz.func152,Tryz.ntmps152
 go_wp2_with fail
 refine(z3g a cap l w H.out HC.out).mono ?_
 rintro e w' ⟨rfl,rfl⟩
 go_wp2_with fail
 have hs1:(w.alloc (.cells (madeCells #[.int .u8 0] (l.length+q)) 5)).heap.size=w.heap.size+1:=by simp
 have nb0:Nb w ((w.alloc (.cells (madeCells #[.int .u8 0] (l.length+q)) 5)).alloc (.cells #[.int .u8 0,.int .i64 0,.slice (some ⟨w.heap.size,0,none⟩) 0 (l.length+q)] 226)):=(Nb.rfl.al _).al _
 have hat0:zkU ((w.alloc (.cells (madeCells #[.int .u8 0] (l.length+q)) 5)).alloc (.cells #[.int .u8 0,.int .i64 0,.slice (some ⟨w.heap.size,0,none⟩) 0 (l.length+q)] 226)) (w.heap.size+1) (.slice (some ⟨w.heap.size,0,none⟩) 0 (l.length+q)) [] :=
  ⟨by have:=Blk.new (w.alloc (.cells (madeCells #[.int .u8 0] (l.length+q)) 5)) #[.int .u8 0,.int .i64 0,.slice (some ⟨w.heap.size,0,none⟩) 0 (l.length+q)] 226;rw[hs1]at this;exact this,(HMd.out w).keep (Kp.alloc (F:=fun _=>False)) (by simp),by simp[Value.ownBlock]⟩
 refine(z49 177 (.pointer (some ⟨w.heap.size+1,0,none⟩)) a cap l (fun k wr=>(∃v,zkU wr (w.heap.size+1) v (zh (l.take k))/\∀j,(j=w.heap.size+1\/v.ownBlock=some j)->w.heap.size<=j)/\Nb w wr) (fun _ _=>False) _ hL
  ⟨⟨_,by simpa [zh]using hat0,by rintro k (rfl | hk);exact Nat.le_succ _;simp[Value.ownBlock]at hk;omega⟩,nb0⟩ (fun k wr hI=>H.out.below hI.2) (hcf _ _ Tryz.func177 (by rfl) (by decide +kernel)) ?_).mono ?_
 ·rintro k x wr ⟨⟨v,ha,hf⟩,hnb⟩ hx
  have hk:k < l.length:=(List.getElem?_eq_some_iff.1 hx).1
  have hbT:∀y∈l.take k,y<=1:=fun y hy=>hbit.out y (List.mem_of_mem_take hy)
  have hl2:=(zr (l.take k)).1
  rw[List.length_take]at hl2
  refine(zcj (w.heap.size+1) v _ x wr ha (z0j hbT) (z3r (z2q hbT)) (hbit.out x (List.mem_of_getElem? hx)) (by omega)).mono ?_
  rintro e w' ⟨rfl,v',ha',hk',hf'⟩
  refine .inl ⟨rfl,⟨v',by rw[zX hx,z0d];exact ha',fun j hj => ?_⟩,hnb.trans (hk'.toBelow hnb.size hf)⟩
  rcases hf' j hj with h1 | h1
  ·exact hf j h1
  ·exact Nat.le_trans hnb.size h1
 ·rintro e w2 ⟨k,rfl,hJ⟩
  refine Or.elim hJ ?_ (fun h=>h.2.elim)
  rintro⟨rfl,⟨v,ha,hf⟩,hnb⟩
  rw[List.take_of_length_le (Nat.le_refl _)]at ha
  have c0:w2.cell? ⟨w.heap.size+1,2,none⟩=some v:=ha.blk.cell 2
  have hown:=ha.own
  obtain⟨a',c',rfl,hbs,_⟩:=hown.bs
  have hfr:zf w w2 (.slice a' (zh l).length c') (zh l):=⟨hown,fun g hg=>hf g (.inr hg)⟩
  have HFr:=zH hfr
  clear ha hfr hown hbs hf hat0 nb0
  have hl2:=(zr l).1
  have hmx:(zh l).length<=131072:=by omega
  rcases HO.out with ⟨h1,rfl,rfl⟩ | ⟨h1,rfl,rfl⟩
  ·go_wp2
   go_ret2
   exact⟨⟨_,_,rfl,HFr.out⟩,hnb⟩
  ·go_wp2
   go_ret2
   exact⟨⟨_,_,rfl,zf.nil _ _⟩,hnb⟩
theorem zhf (a:Option Addr) (cap:Nat) (l:List Nat) (w:World) (h:Bs w a cap l) (hc:chk l=false) :
    Calls Tryz.prog 152 #[.slice a l.length cap] w fun e w'=>zcT w [] 2 e w'/\Nb w w':=by
 have HC:=zH hc
 have H:=zH h
 clear h hc
 go_enter Tryz.func152,Tryz.ntmps152
 go_wp2_with fail
 refine(z5e a cap l w H.out HC.out).mono ?_
 rintro e w' ⟨rfl,rfl⟩
 go_wp2
 go_ret2
 exact⟨⟨_,_,rfl,zf.nil _ _⟩,Nb.rfl⟩
theorem zhV (a:Option Addr) (cap:Nat) (l:List Nat) (w:World) (h:Bs w a cap l) :
    Calls Tryz.prog 152 #[.slice a l.length cap] w fun e w'=>zcT w (spL l) (spE l) e w'/\Nb w w':=by
 cases hc:chk l with
 | true =>
   simp only[spL,spE,hc,if_true]
   by_cases h6:(zh l).length<=65536
   ·rw[if_pos h6,if_pos h6]
    exact zdZ a cap l w h hc 0 (zh l) (.inl ⟨h6,rfl,rfl⟩)
   ·rw[if_neg h6,if_neg h6]
    exact zdZ a cap l w h hc 2 [] (.inr ⟨by omega,rfl,rfl⟩)
 | false =>
   simp only[spL,spE,hc,Bool.false_eq_true,if_false]
   exact zhf a cap l w h hc
structure z9j(w:World)(R n:Nat)(v:Value)(pre:List Nat)(st wr:Bool):Prop where
 blk:Blk w R #[.int .u8 (zq pre).1,.int .i64 (zq pre).2,.int .i64 n,v,.bool st,.bool wr] 230
 own:z04 w v (zo pre)
 ne:v.ownBlock≠some R
def z3k(w:World)(R n:Nat)(v:Value)(pre:List Nat)(st wr:Bool)(w':World):Prop :=
 ∃v',z9j w' R n v' pre st wr/\Kp (fun k=>k=R\/v.ownBlock=some k) w w'/\∀k,(k=R\/v'.ownBlock=some k)->(k=R\/v.ownBlock=some k)\/w.heap.size<=k
theorem z9j.step{R n:Nat}{v:Value}{pre':List Nat}{st wr st' wr':Bool}(h:z9j w R n v pre st wr)(hb:Blk w' R #[.int .u8 (zq pre').1,.int .i64 (zq pre').2,.int .i64 n,v,.bool st',.bool wr'] 230)(hk:Kp (·=R) w w')(ht:zo pre'=zo pre):z3k w R n v pre' st' wr' w' :=
 ⟨v,⟨hb,by rw[ht];exact h.own.keep hk (fun g hg e=>h.ne (e ▸ hg)),h.ne⟩,hk.mono (fun k _ h => .inl h),fun k hk => .inl hk⟩
theorem zbY (R n:Nat) (v:Value) (pre:List Nat) (st wr:Bool) (x:Nat) (w:World) (h:z9j w R n v pre st wr) (hx:x<=1) (hl:pre.length < 70368744170000) (he:(zo pre).length=n) :
    Calls Tryz.prog 194 #[.pointer (some ⟨R,0,none⟩),.int .u8 x] w fun e w'=>e = .returned (.bool false)/\z3k w R n v pre st wr w':=by
 obtain⟨a,cap,rfl,hbs,_⟩:=h.own.bs
 have c2:w.cell? ⟨R,2,none⟩=some (.int .i64 n):=h.blk.cell 2
 have c3:w.cell? ⟨R,3,none⟩=some (.slice a (zo pre).length cap):=h.blk.cell 3
 have hd:(((zo pre).length:Int)==(n:Int))=true:=by rw[beq_iff_eq];omega
 have hfin:∀k,z3k w R n (.slice a (zo pre).length cap) pre st wr (w.drewN k):=fun k=>h.step h.blk (Kp.ofNb (Nb.drewN _ _)) rfl
 have HF:=zH hfin
 have ht:=z1H pre
 clear hfin h hbs he
 go_enter Tryz.func194,Tryz.ntmps194
 go_wp2
 go_quiet (fail)
 go_wp2
 go_ret
 exact⟨rfl,HF.out _⟩
theorem zbB (R n:Nat) (v:Value) (pre:List Nat) (st:Bool) (x:Nat) (w:World) (h:z9j w R n v pre st false) (hx:x<=1) (hr:(zq pre).2<=5) (hl:pre.length < 70368744170000) (he:(zo pre).length≠n) (hf:full pre=true) (hxl:x=zl pre) :
    Calls Tryz.prog 194 #[.pointer (some ⟨R,0,none⟩),.int .u8 x] w fun e w'=>e = .returned (.bool false)/\z3k w R n v pre true true w':=by
 obtain⟨a,cap,rfl,hbs,hob⟩:=h.own.bs
 have ht:=z1H pre
 have hrl:=z4S pre
 have c2:w.cell? ⟨R,2,none⟩=some (.int .i64 n):=h.blk.cell 2
 have c3:w.cell? ⟨R,3,none⟩=some (.slice a (zo pre).length cap):=h.blk.cell 3
 have hd:(((zo pre).length:Int)==(n:Int))=false:=by rw[beq_eq_false_iff_ne];omega
 have h5:decide ((zq pre).2=5)=true:=by
  have:5<=(zq pre).2:=by simpa [full]using hf
  simp
  omega
 have hd2:((x:Int)==((zq pre).1:Int))=true:=by unfold zl at hxl;rw[beq_iff_eq];omega
 have H:=zH h
 clear h hbs he hob
 go_enter Tryz.func194,Tryz.ntmps194
 go_wp2
 go_quiet (fail)
 rename_i nq
 have hat:z9j (w.drewN nq) R n (.slice a (zo pre).length cap) pre st false:=⟨H.out.blk,H.out.own,H.out.ne⟩
 have hnb:Kp (fun k=>k=R) w (w.drewN nq):=Kp.ofNb (Nb.drewN _ _)
 clear H c2 c3
 generalize w.drewN nq=wd at *
 have hfull:=z2r R _ _ (zq pre).1 (zq pre).2 wd hat.blk rfl
 rw[h5]at hfull
 have f4:=hat.blk.frozen 4
 have f5:=hat.blk.frozen 5
 have d0:wd.cell? ⟨R,0,none⟩=some (.int .u8 (zq pre).1):=hat.blk.cell 0
 have d4:wd.cell? ⟨R,4,none⟩=some (.bool st):=hat.blk.cell 4
 have d5:wd.cell? ⟨R,5,none⟩=some (.bool false):=hat.blk.cell 5
 have hB1:Blk (wd.setCell ⟨R,4,none⟩ (.bool true)) R #[.int .u8 (zq pre).1,.int .i64 (zq pre).2,.int .i64 n,.slice a (zo pre).length cap,.bool true,.bool false] 230:=by simpa using hat.blk.set 4 (.bool true)
 have hK1:Kp (fun k=>k=R) w (wd.setCell ⟨R,4,none⟩ (.bool true)):=hnb.tr (Kp.set (F:=(·=R)) rfl) (fun k h => .inl h)
 have hO1:z04 (wd.setCell ⟨R,4,none⟩ (.bool true)) (.slice a (zo pre).length cap) (zo pre):=hat.own.keep (Kp.set (F:=(·=R)) rfl) (fun g hg h=>hat.ne (h ▸ hg))
 have hne:=hat.ne
 have HF:=zH hfull
 clear hfull hat h5
 go_wp2_with fail
 refine HF.out.mono ?_
 rintro e w0 ⟨rfl,rfl⟩
 go_wp2
 go_ret
 refine⟨rfl,_,⟨hB1.set 5 _,hO1.keep (Kp.set (F:=(·=R)) rfl) (fun g hg h=>hne (h ▸ hg)),hne⟩,?_,fun k hk => .inl hk⟩
 exact(hK1.tr (Kp.set (F:=(·=R)) rfl) (fun k h => .inl h)).mono (fun k _ h => .inl h)
theorem z7U (R n:Nat) (v:Value) (pre:List Nat) (st:Bool) (x:Nat) (w:World) (h:z9j w R n v pre st false) (hx:x<=1) (hr:(zq pre).2<=5) (hl:pre.length < 70368744170000) (he:(zo pre).length≠n) (hf:full pre=true) (hxl:x≠zl pre) :
    Calls Tryz.prog 194 #[.pointer (some ⟨R,0,none⟩),.int .u8 x] w fun e w'=>e = .returned (.bool true)/\z3k w R n v (pre++[x]) true false w':=by
 obtain⟨a,cap,rfl,hbs,hob⟩:=h.own.bs
 have ht:=z1H pre
 have hrl:=z4S pre
 have c2:w.cell? ⟨R,2,none⟩=some (.int .i64 n):=h.blk.cell 2
 have c3:w.cell? ⟨R,3,none⟩=some (.slice a (zo pre).length cap):=h.blk.cell 3
 have hd:(((zo pre).length:Int)==(n:Int))=false:=by rw[beq_eq_false_iff_ne];omega
 have h5:decide ((zq pre).2=5)=true:=by
  have:5<=(zq pre).2:=by simpa [full]using hf
  simp
  omega
 have hd2:((x:Int)==((zq pre).1:Int))=false:=by unfold zl at hxl;rw[beq_eq_false_iff_ne];omega
 have hte:zo (pre++[x])=zo pre:=by rw[z0o,hf];rfl
 have H:=zH h
 clear h hbs he hob
 go_enter Tryz.func194,Tryz.ntmps194
 go_wp2
 go_quiet (fail)
 rename_i nq
 have hat:z9j (w.drewN nq) R n (.slice a (zo pre).length cap) pre st false:=⟨H.out.blk,H.out.own,H.out.ne⟩
 have hnb:Kp (fun k=>k=R) w (w.drewN nq):=Kp.ofNb (Nb.drewN _ _)
 clear H c2 c3
 generalize w.drewN nq=wd at *
 have hfull:=z2r R _ _ (zq pre).1 (zq pre).2 wd hat.blk rfl
 rw[h5]at hfull
 have f4:=hat.blk.frozen 4
 have f5:=hat.blk.frozen 5
 have d0:wd.cell? ⟨R,0,none⟩=some (.int .u8 (zq pre).1):=hat.blk.cell 0
 have d4:wd.cell? ⟨R,4,none⟩=some (.bool st):=hat.blk.cell 4
 have d5:wd.cell? ⟨R,5,none⟩=some (.bool false):=hat.blk.cell 5
 have hB1:Blk (wd.setCell ⟨R,4,none⟩ (.bool true)) R #[.int .u8 (zq pre).1,.int .i64 (zq pre).2,.int .i64 n,.slice a (zo pre).length cap,.bool true,.bool false] 230:=by simpa using hat.blk.set 4 (.bool true)
 have hK1:Kp (fun k=>k=R) w (wd.setCell ⟨R,4,none⟩ (.bool true)):=hnb.tr (Kp.set (F:=(·=R)) rfl) (fun k h => .inl h)
 have hO1:z04 (wd.setCell ⟨R,4,none⟩ (.bool true)) (.slice a (zo pre).length cap) (zo pre):=hat.own.keep (Kp.set (F:=(·=R)) rfl) (fun g hg h=>hat.ne (h ▸ hg))
 have hne:=hat.ne
 have HF:=zH hfull
 clear hfull hat h5
 go_wp2_with fail
 refine HF.out.mono ?_
 rintro e w0 ⟨rfl,rfl⟩
 have hadd:=z4g R _ _ (zq pre).1 (zq pre).2 x _ hB1 rfl rfl (by omega)
 have hrs:z1I ((zq pre).1,(zq pre).2) x=zq (pre++[x]):=(z07 pre x).symm
 rw[hrs]at hadd
 have HA:=zH hadd
 have HT:=zH hte
 clear hadd hrs hte
 go_wp2_with fail
 refine HA.out.mono ?_
 rintro e w2 ⟨rfl,hB2,hk2⟩
 have hB3:Blk w2 R #[.int .u8 (zq (pre++[x])).1,.int .i64 (zq (pre++[x])).2,.int .i64 n,.slice a (zo pre).length cap,.bool true,.bool false] 230:=hB2
 have g4:w2.cell? ⟨R,4,none⟩=some (.bool true):=hB3.cell 4
 have hO2:=hO1.keep hk2 (fun g hg h=>hne (h ▸ hg))
 have hK2:=(hK1.tr hk2 (fun k h => .inl h)).mono (F':=fun k=>k=R\/(Value.slice a (zo pre).length cap).ownBlock=some k) (fun k _ h => .inl h)
 have hfin:z3k w R n (.slice a (zo pre).length cap) (pre++[x]) true false w2:=⟨_,⟨hB3,by rw[HT.out];exact hO2,hne⟩,hK2,fun k hk => .inl hk⟩
 have HF2:=zH hfin
 clear hB1 hB2 hB3 hO1 hO2 hK1 hK2 hk2 hfin HA hf
 go_wp2
 go_ret
 exact⟨rfl,HF2.out⟩
theorem z9e (R n:Nat) (v:Value) (pre:List Nat) (st:Bool) (x:Nat) (w:World) (h:z9j w R n v pre st false) (hx:x<=1) (hr:(zq pre).2<=5) (hl:pre.length < 70368744170000) (he:(zo pre).length≠n) (hf:full pre=false) :
    Calls Tryz.prog 194 #[.pointer (some ⟨R,0,none⟩),.int .u8 x] w fun e w'=>e = .returned (.bool true)/\z3k w R n v (pre++[x]) false false w':=by
 obtain⟨a,cap,rfl,hbs,hob⟩:=h.own.bs
 have ht:=z1H pre
 have hrl:=z4S pre
 have c2:w.cell? ⟨R,2,none⟩=some (.int .i64 n):=h.blk.cell 2
 have c3:w.cell? ⟨R,3,none⟩=some (.slice a (zo pre).length cap):=h.blk.cell 3
 have hd:(((zo pre).length:Int)==(n:Int))=false:=by rw[beq_eq_false_iff_ne];omega
 have h5:decide ((zq pre).2=5)=false:=by
  have:¬5<=(zq pre).2:=by simpa [full]using hf
  simp
  omega
 have hte:zo (pre++[x])=zo pre++[x]:=by rw[z0o,hf];rfl
 have H:=zH h
 clear h hbs he hob
 go_enter Tryz.func194,Tryz.ntmps194
 go_wp2
 go_quiet (fail)
 rename_i nq
 have hat:z9j (w.drewN nq) R n (.slice a (zo pre).length cap) pre st false:=⟨H.out.blk,H.out.own,H.out.ne⟩
 have hnb:Kp (fun k=>k=R) w (w.drewN nq):=Kp.ofNb (Nb.drewN _ _)
 clear H c2 c3
 generalize w.drewN nq=wd at *
 have hfull:=z2r R _ _ (zq pre).1 (zq pre).2 wd hat.blk rfl
 rw[h5]at hfull
 have f4:=hat.blk.frozen 4
 have f5:=hat.blk.frozen 5
 have d0:wd.cell? ⟨R,0,none⟩=some (.int .u8 (zq pre).1):=hat.blk.cell 0
 have d4:wd.cell? ⟨R,4,none⟩=some (.bool st):=hat.blk.cell 4
 have d5:wd.cell? ⟨R,5,none⟩=some (.bool false):=hat.blk.cell 5
 have hB1:Blk (wd.setCell ⟨R,4,none⟩ (.bool false)) R #[.int .u8 (zq pre).1,.int .i64 (zq pre).2,.int .i64 n,.slice a (zo pre).length cap,.bool false,.bool false] 230:=by simpa using hat.blk.set 4 (.bool false)
 have hK1:Kp (fun k=>k=R) w (wd.setCell ⟨R,4,none⟩ (.bool false)):=hnb.tr (Kp.set (F:=(·=R)) rfl) (fun k h => .inl h)
 have hO1:z04 (wd.setCell ⟨R,4,none⟩ (.bool false)) (.slice a (zo pre).length cap) (zo pre):=hat.own.keep (Kp.set (F:=(·=R)) rfl) (fun g hg h=>hat.ne (h ▸ hg))
 have hne:=hat.ne
 have HF:=zH hfull
 clear hfull hat h5
 go_wp2_with fail
 refine HF.out.mono ?_
 rintro e w0 ⟨rfl,rfl⟩
 have hadd:=z4g R _ _ (zq pre).1 (zq pre).2 x _ hB1 rfl rfl (by omega)
 have hrs:z1I ((zq pre).1,(zq pre).2) x=zq (pre++[x]):=(z07 pre x).symm
 rw[hrs]at hadd
 have HA:=zH hadd
 have HT:=zH hte
 clear hadd hrs hte
 go_wp2_with fail
 refine HA.out.mono ?_
 rintro e w2 ⟨rfl,hB2,hk2⟩
 have hB3:Blk w2 R #[.int .u8 (zq (pre++[x])).1,.int .i64 (zq (pre++[x])).2,.int .i64 n,.slice a (zo pre).length cap,.bool false,.bool false] 230:=hB2
 have g4:w2.cell? ⟨R,4,none⟩=some (.bool false):=hB3.cell 4
 have g3:w2.cell? ⟨R,3,none⟩=some (.slice a (zo pre).length cap):=hB3.cell 3
 have hO2:=hO1.keep hk2 (fun g hg h=>hne (h ▸ hg))
 have hK2:=(hK1.tr hk2 (fun k h => .inl h)).mono (F':=fun k=>k=R\/(Value.slice a (zo pre).length cap).ownBlock=some k) (fun k _ h => .inl h)
 have hR2:=hB3.lt
 have hal:Kp (fun _=>False) w2 (w2.alloc (.cells #[.int .u8 (x:Int)] 5)):=Kp.alloc
 have hown:=hO2.keep hal (by simp)
 have hbl:=hB3.keep hal (by simp)
 clear hB1 hB2 hO1 hK1 hk2 HA hf d0 d4 d5 HF hB3 hO2
 go_wp2_with (at_builtin;refine zd _ rfl (.tmp 52) (.tmp 54) rfl _ (zo pre) rfl hown _ _ [x] 1 rfl rfl (Bs.one w2 x (by omega) _) (by simp) (by simp;omega) ?_)
 intro v' w3 hown' hk hfr
 obtain⟨g,c',rfl⟩:=hown'.shape (by simp)
 have hbl':=hbl.keep hk hne
 have hs2:=hK2.size
 have hg:g≠R:=by
  rintro rfl
  rcases hfr g rfl with h1 | h1
  ·exact hne h1
  ·have:=hal.size;omega
 have k3:w3.cell? ⟨R,3,none⟩=some (.slice a (zo pre).length cap):=hbl'.cell 3
 have f3:=hbl'.frozen 3
 have hfin:z3k w R n (.slice a (zo pre).length cap) (pre++[x]) false false (w3.setCell ⟨R,3,none⟩ (.slice (some ⟨g,0,none⟩) (zo pre++[x]).length c')):=by
  refine⟨_,⟨hbl'.set 3 _,by rw[HT.out];exact hown'.keep (Kp.set (F:=(·=R)) rfl) (by simpa [Value.ownBlock]using hg),by simpa [Value.ownBlock]using hg⟩,?_,?_⟩
  ·exact((hK2.tr (hal.mono (F':=fun k=>k=R\/(Value.slice a (zo pre).length cap).ownBlock=some k) (fun _ _ h=>h.elim)) (fun k h => .inl h)).tr (hk.mono (F':=fun k=>k=R\/(Value.slice a (zo pre).length cap).ownBlock=some k) (fun k _ h => .inr h)) (fun k h => .inl h)).tr (Kp.set (F:=(·=R)) rfl) (fun k h => .inl (.inl h))
  ·rintro k (rfl | hk)
   ·exact .inl (.inl rfl)
   ·rcases hfr k hk with h1 | h1
    ·exact .inl (.inr h1)
    ·have:=hal.size
     exact .inr (by omega)
 have HF2:=zH hfin
 clear hfin hown' hk hfr hbl' hal hown hbl hK2 g3 g4
 go_wp2
 go_ret
 exact⟨rfl,by simpa using HF2.out⟩
def rdV(pre:List Nat)(n:Nat)(v:Value)(st:Bool):Value := .agg #[.int .u8 (zq pre).1,.int .i64 (zq pre).2,.int .i64 n,v,.bool st,.bool false]
def rdZ:Value := .agg #[.int .u8 0,.int .i64 0,.int .i64 0,.slice none 0 0,.bool false,.bool false]
theorem z3k.foot {R n:Nat} {v:Value} {st wr:Bool} (h:z3k w R n v pre st wr w') (hnb:Nb w0 w) (hf:∀j,(j=R\/v.ownBlock=some j)->w0.heap.size<=j) :
    (∃v',z9j w' R n v' pre st wr/\∀j,(j=R\/v'.ownBlock=some j)->w0.heap.size<=j)/\Nb w0 w':=by
 obtain⟨v',ha,hk,hf'⟩:=h
 refine⟨⟨v',ha,fun j hj => ?_⟩,hnb.trans (hk.toBelow hnb.size hf)⟩
 rcases hf' j hj with h1 | h1
 ·exact hf j h1
 ·exact Nat.le_trans hnb.size h1
def zaE(w:World)(b:Nat)(v0 v1 v2 v3 v4 v5:Value):World:=(((((w.setCell ⟨b,0,none⟩ v0).setCell ⟨b,1,none⟩ v1).setCell ⟨b,2,none⟩ v2).setCell ⟨b,3,none⟩ v3).setCell ⟨b,4,none⟩ v4).setCell ⟨b,5,none⟩ v5
theorem z4N{u0 u1 u2 u3 u4 u5 v0 v1 v2 v3 v4 v5:Value}{t:TypeId}(h:Blk w b #[u0,u1,u2,u3,u4,u5] t):Blk (zaE w b v0 v1 v2 v3 v4 v5) b #[v0,v1,v2,v3,v4,v5] t:=by
 have:=(((((h.set 0 v0).set 1 v1).set 2 v2).set 3 v3).set 4 v4).set 5 v5
 simpa [zaE]using this
theorem z9W(w:World)(b:Nat)(v0 v1 v2 v3 v4 v5:Value):Kp (fun x=>x=b) w (zaE w b v0 v1 v2 v3 v4 v5):=by
 unfold zaE
 iterate 6 refine Kp.tr (F':=fun x=>x=b) ?_ (Kp.set rfl) (fun k h => .inl h)
 exact Kp.rfl
theorem z6U(h:Nb w0 w)(hb:w0.heap.size<=b)(v0 v1 v2 v3 v4 v5:Value):Nb w0 (zaE w b v0 v1 v2 v3 v4 v5) :=
 h.trans ((z9W w b v0 v1 v2 v3 v4 v5).toBelow h.size (fun k hk=>by omega))
def RdI(w0:World)(R n:Nat)(l:List Nat)(k:Nat)(w:World):Prop :=
 ((∃v,z9j w R n v (l.take k) (z0O (l.take k)) false/\∀j,(j=R\/v.ownBlock=some j)->w0.heap.size<=j)/\Nb w0 w)/\z0K n [] l=z0K n (l.take k) (l.drop k)/\okS (l.take k)=true
def RdJ(w0:World)(R n:Nat)(l:List Nat)(k:Nat)(w:World):Prop :=
 (((∃v,z9j w R n v (l.take k) (z0O (l.take k)) false/\∀j,(j=R\/v.ownBlock=some j)->w0.heap.size<=j)/\Nb w0 w)/\z0K n [] l=(l.take k,false)) \/
 (((∃v,z9j w R n v (l.take k) true true/\∀j,(j=R\/v.ownBlock=some j)->w0.heap.size<=j)/\Nb w0 w)/\z0K n [] l=(l.take k,true))
theorem zbu (w0:World) (R n:Nat) (l:List Nat) (hbit:∀x∈l,x<=1) (hlen:l.length<=65536) (k x:Nat) (w:World) (h:RdI w0 R n l k w) (hx:l[k]? = some x) :
    Calls Tryz.prog 194 #[.pointer (some ⟨R,0,none⟩),.int .u8 (x:Int)] w fun e w'=>(e = .returned (.bool true)/\RdI w0 R n l (k+1) w')\/(e = .returned (.bool false)/\RdJ w0 R n l k w'):=by
 obtain⟨⟨⟨v,ha,hf⟩,hnb⟩,hG,hok⟩:=h
 have hk:k < l.length:=(List.getElem?_eq_some_iff.1 hx).1
 have hbT:∀y∈l.take k,y<=1:=fun y hy=>hbit y (List.mem_of_mem_take hy)
 have hx1:=hbit x (List.mem_of_getElem? hx)
 have hlT:(l.take k).length < 70368744170000:=by rw[List.length_take];omega
 have hr:=z3r hok
 have hdr:l.drop k=x::l.drop (k+1):=by
  rw[List.drop_eq_getElem_cons hk]
  congr 1
  rw[List.getElem?_eq_getElem hk]at hx
  exact Option.some.inj hx
 have htk:=zX hx
 rw[hdr]at hG
 by_cases he:(zo (l.take k)).length=n
 ·rw[z0K,if_pos he]at hG
  refine(zbY R n v _ _ _ x w ha hx1 hlT he).mono ?_
  rintro e w' ⟨rfl,hs⟩
  exact .inr ⟨rfl,.inl ⟨hs.foot hnb hf,hG⟩⟩
 ·rw[z0K,if_neg he]at hG
  cases hfl:full (l.take k) with
  | false =>
    rw[hfl,Bool.false_and,if_neg (by simp)]at hG
    refine(z9e R n v _ _ x w ha hx1 hr hlT he hfl).mono ?_
    rintro e w' ⟨rfl,hs⟩
    refine .inl ⟨rfl,?_,?_,?_⟩
    ·rw[htk,z2d,hfl]
     exact hs.foot hnb hf
    ·rw[htk];exact hG
    ·rw[htk,z1b,hok,hfl];rfl
  | true =>
    by_cases hxl:x=zl (l.take k)
    ·rw[hfl,Bool.true_and,if_pos (by rw[beq_iff_eq];exact hxl)]at hG
     refine(zbB R n v _ _ x w ha hx1 hr hlT he hfl hxl).mono ?_
     rintro e w' ⟨rfl,hs⟩
     exact .inr ⟨rfl,.inr ⟨hs.foot hnb hf,hG⟩⟩
    ·have hb:(x==zl (l.take k))=false:=by rw[beq_eq_false_iff_ne];exact hxl
     rw[hfl,Bool.true_and,hb,if_neg (by simp)]at hG
     refine(z7U R n v _ _ x w ha hx1 hr hlT he hfl hxl).mono ?_
     rintro e w' ⟨rfl,hs⟩
     refine .inl ⟨rfl,?_,?_,?_⟩
     ·rw[htk,z2d,hfl]
      exact hs.foot hnb hf
     ·rw[htk];exact hG
     ·rw[htk,z1b,hok,hfl,hb];rfl
theorem zaW (a:Option Addr) (cap:Nat) (l:List Nat) (n:Nat) (w:World) (h:Bs w a cap l) (hc:chk l=false) :
    Calls Tryz.prog 178 #[.slice a l.length cap,.int .i64 n] w fun e w'=>e = .returned (.tuple #[rdZ,.int .i64 0,.int .i64 2])/\Nb w w':=by
 have HC:=zH hc
 have H:=zH h
 clear h hc
 go_enter Tryz.func178,Tryz.ntmps178
 go_wp2_with fail
 refine(z5e a cap l _ (H.out.below (Nb.rfl.al _)) HC.out).mono ?_
 rintro e w' ⟨rfl,rfl⟩
 go_wp2
 refine bodyPost_ret (v := .tuple #[rdZ,.int .i64 0,.int .i64 2]) (by simp[results,Tryz.results178,go_sem,rdZ]) rfl ⟨rfl,Nb.rfl.al _⟩
theorem z6r (a:Option Addr) (cap:Nat) (l:List Nat) (n:Nat) (w:World) (h:Bs w a cap l) (hc:chk l=true) (hn:n<=65536) (hG:(z0K n [] l).2=true) :
    Calls Tryz.prog 178 #[.slice a l.length cap,.int .i64 n] w fun e w'=>e = .returned (.tuple #[rdZ,.int .i64 0,.int .i64 4])/\Nb w w':=by
 have hL:=h.len
 have hlen:=z1h hc
 have hbit:=zH (z0C hc)
 have HC:=zH hc
 have H:=zH h
 have HG:=zH hG
 obtain⟨M,hM⟩:∃M,M=min n l.length:=⟨_,rfl⟩
 have hM2:M<=65536:=by omega
 have hmin:∀ts t w,(Builtin.min_ ts t #[.int .i64 n,.int .i64 l.length]).run Tryz.prog w = .ok (.int .i64 M) w:=fun ts t w=>by
  rw[z7d,show min (n:Int) (l.length:Int)=(M:Int)from by omega]
 have hmf:∀(fn:Fn) (first cap:Array Value) (w:World),(Instr.makeFunc fn first cap).run Tryz.prog w = .ok (.func fn first cap) w:=fun _ _ _ _=>rfl
 have hm:∀w,(Instr.makeSlice 35 (.int .i64 0) (.int .i64 (M:Int))).run Tryz.prog w = .ok (.slice (some ⟨w.heap.size,0,none⟩) 0 M) (w.alloc (.cells (madeCells #[.int .u8 0] M) 5)):=fun w=>z33 w _ (by omega)
 obtain⟨w1,hw1⟩:∃w1,w1=w.alloc (.cells #[.int .u8 0,.int .i64 0,.int .i64 0,.slice none 0 0,.bool false,.bool false] 230):=⟨_,rfl⟩
 have hs1:w1.heap.size=w.heap.size+1:=by rw[hw1];simp
 have nb1:Nb w w1:=by rw[hw1];exact Nb.rfl.al _
 have hZ:Blk w1 w.heap.size #[.int .u8 0,.int .i64 0,.int .i64 0,.slice none 0 0,.bool false,.bool false] 230:=by rw[hw1];exact Blk.new _ _ _
 have hmade:=z04.made w1 M (by omega)
 have hs2:(w1.alloc (.cells (madeCells #[.int .u8 0] M) 5)).heap.size=w.heap.size+1+1:=by simp[hs1]
 have hat0:RdI w1 (w.heap.size+1+1) n l 0 ((w1.alloc (.cells (madeCells #[.int .u8 0] M) 5)).alloc (.cells #[.int .u8 0,.int .i64 0,.int .i64 n,.slice (some ⟨w.heap.size+1,0,none⟩) 0 M,.bool false,.bool false] 230)):=by
  refine⟨⟨⟨.slice (some ⟨w.heap.size+1,0,none⟩) 0 M,⟨?_,?_,by simp[Value.ownBlock]⟩,?_⟩,(Nb.rfl.al _).al _⟩,rfl,rfl⟩
  ·have:=Blk.new (w1.alloc (.cells (madeCells #[.int .u8 0] M) 5)) #[.int .u8 0,.int .i64 0,.int .i64 n,.slice (some ⟨w.heap.size+1,0,none⟩) 0 M,.bool false,.bool false] 230
   rw[hs2]at this
   exact this
  ·rw[hs1]at hmade
   exact hmade.keep (Kp.alloc (F:=fun _=>False)) (by simp)
  ·rintro j (rfl | hj)
   ·omega
   ·simp[Value.ownBlock]at hj
    omega
 have HI:=zH hat0
 have HZ:=zH hZ
 clear h hc hG hM hat0 hmade hZ
 go_enter Tryz.func178,Tryz.ntmps178
 go_wp2_with fail
 refine(z3g a cap l _ (H.out.below (Nb.rfl.al _)) HC.out).mono ?_
 rintro e w' ⟨rfl,rfl⟩
 go_wp2_with fail
 rw[<- hw1]
 refine(z49 194 (.pointer (some ⟨w.heap.size+1+1,0,none⟩)) a cap l (RdI w1 (w.heap.size+1+1) n l) (RdJ w1 (w.heap.size+1+1) n l) _ hL HI.out (fun k wr hI=>(H.out.below nb1).below hI.1.2) (hcf _ _ Tryz.func194 (by rfl) (by decide +kernel)) (fun k x wr hI hx=>zbu w1 _ n l hbit.out hlen k x wr hI hx)).mono ?_
 rintro e w2 ⟨k,rfl,hJ⟩
 have hR:((∃v,z9j w2 (w.heap.size+1+1) n v (l.take k) true true/\∀j,(j=w.heap.size+1+1\/v.ownBlock=some j)->w1.heap.size<=j)/\Nb w1 w2):=by
  have hg:=HG.out
  rcases hJ with ⟨rfl,_,h2,_⟩ | ⟨_,⟨_,h2⟩ | ⟨h1,_⟩⟩
  ·rw[h2,List.drop_of_length_le (Nat.le_refl _),z0K]at hg
   cases hg
  ·rw[h2]at hg
   cases hg
  ·exact h1
 obtain⟨⟨v,ha,_⟩,hnb⟩:=hR
 have c5:w2.cell? ⟨w.heap.size+1+1,5,none⟩=some (.bool true):=ha.blk.cell 5
 have hZ2:=HZ.out.nb hnb
 have z0:w2.cell? ⟨w.heap.size,0,none⟩=some (.int .u8 0):=hZ2.cell 0
 have z1:w2.cell? ⟨w.heap.size,1,none⟩=some (.int .i64 0):=hZ2.cell 1
 have z2:w2.cell? ⟨w.heap.size,2,none⟩=some (.int .i64 0):=hZ2.cell 2
 have z3:w2.cell? ⟨w.heap.size,3,none⟩=some (.slice none 0 0):=hZ2.cell 3
 have z4:w2.cell? ⟨w.heap.size,4,none⟩=some (.bool false):=hZ2.cell 4
 have z5:w2.cell? ⟨w.heap.size,5,none⟩=some (.bool false):=hZ2.cell 5
 have y0:=hZ2.frozen 0
 have y1:=hZ2.frozen 1
 have y2:=hZ2.frozen 2
 have y3:=hZ2.frozen 3
 have y4:=hZ2.frozen 4
 have y5:=hZ2.frozen 5
 have nb2:=nb1.tr hnb
 clear hJ ha hw1 HI HZ hs1 hs2 hnb nb1
 have hB:=z4N (v0 := .int .u8 0) (v1 := .int .i64 0) (v2 := .int .i64 0) (v3 := .slice none 0 0) (v4 := .bool false) (v5 := .bool false) hZ2
 have hnbW:=z6U (b:=w.heap.size) nb2 (Nat.le_refl _) (.int .u8 0) (.int .i64 0) (.int .i64 0) (.slice none 0 0) (.bool false) (.bool false)
 have HB:=zH hB
 have HW:=zH hnbW
 clear hB hnbW hZ2
 go_wp2
 change bodyPost _ _ _ _ _ (zaE w2 w.heap.size (.int .u8 0) (.int .i64 0) (.int .i64 0) (.slice none 0 0) (.bool false) (.bool false))
 generalize zaE w2 w.heap.size (.int .u8 0) (.int .i64 0) (.int .i64 0) (.slice none 0 0) (.bool false) (.bool false)=W at *
 have e0:W.cell? ⟨w.heap.size,0,none⟩=_:=HB.out.cell 0
 have e1:W.cell? ⟨w.heap.size,1,none⟩=_:=HB.out.cell 1
 have e2:W.cell? ⟨w.heap.size,2,none⟩=_:=HB.out.cell 2
 have e3:W.cell? ⟨w.heap.size,3,none⟩=_:=HB.out.cell 3
 have e4:W.cell? ⟨w.heap.size,4,none⟩=_:=HB.out.cell 4
 have e5:W.cell? ⟨w.heap.size,5,none⟩=_:=HB.out.cell 5
 exact bodyPost_ret (v := .tuple #[rdZ,.int .i64 0,.int .i64 4]) (by simp[results,Tryz.results178,go_sem,rdZ,e0,e1,e2,e3,e4,e5]) rfl ⟨rfl,HW.out⟩
theorem z5m (a:Option Addr) (cap:Nat) (l:List Nat) (n:Nat) (w:World) (h:Bs w a cap l) (hc:chk l=true) (hn:n<=65536) (pre:List Nat) (hG:z0K n [] l=(pre,false)) :
    Calls Tryz.prog 178 #[.slice a l.length cap,.int .i64 n] w fun e w'=>(∃a c,e = .returned (.tuple #[rdV pre n (.slice a (zo pre).length c) (z0O pre),.int .i64 pre.length,.int .i64 0])/\zf w w' (.slice a (zo pre).length c) (zo pre))/\Nb w w':=by
 have hL:=h.len
 have hlen:=z1h hc
 have hbit:=zH (z0C hc)
 have HC:=zH hc
 have H:=zH h
 have HG:=zH hG
 obtain⟨M,hM⟩:∃M,M=min n l.length:=⟨_,rfl⟩
 have hM2:M<=65536:=by omega
 have hmin:∀ts t w,(Builtin.min_ ts t #[.int .i64 n,.int .i64 l.length]).run Tryz.prog w = .ok (.int .i64 M) w:=fun ts t w=>by
  rw[z7d,show min (n:Int) (l.length:Int)=(M:Int)from by omega]
 have hmf:∀(fn:Fn) (first cap:Array Value) (w:World),(Instr.makeFunc fn first cap).run Tryz.prog w = .ok (.func fn first cap) w:=fun _ _ _ _=>rfl
 have hm:∀w,(Instr.makeSlice 35 (.int .i64 0) (.int .i64 (M:Int))).run Tryz.prog w = .ok (.slice (some ⟨w.heap.size,0,none⟩) 0 M) (w.alloc (.cells (madeCells #[.int .u8 0] M) 5)):=fun w=>z33 w _ (by omega)
 obtain⟨w1,hw1⟩:∃w1,w1=w.alloc (.cells #[.int .u8 0,.int .i64 0,.int .i64 0,.slice none 0 0,.bool false,.bool false] 230):=⟨_,rfl⟩
 have hs1:w1.heap.size=w.heap.size+1:=by rw[hw1];simp
 have nb1:Nb w w1:=by rw[hw1];exact Nb.rfl.al _
 have hZ:Blk w1 w.heap.size #[.int .u8 0,.int .i64 0,.int .i64 0,.slice none 0 0,.bool false,.bool false] 230:=by rw[hw1];exact Blk.new _ _ _
 have hmade:=z04.made w1 M (by omega)
 have hs2:(w1.alloc (.cells (madeCells #[.int .u8 0] M) 5)).heap.size=w.heap.size+1+1:=by simp[hs1]
 have hat0:RdI w1 (w.heap.size+1+1) n l 0 ((w1.alloc (.cells (madeCells #[.int .u8 0] M) 5)).alloc (.cells #[.int .u8 0,.int .i64 0,.int .i64 n,.slice (some ⟨w.heap.size+1,0,none⟩) 0 M,.bool false,.bool false] 230)):=by
  refine⟨⟨⟨.slice (some ⟨w.heap.size+1,0,none⟩) 0 M,⟨?_,?_,by simp[Value.ownBlock]⟩,?_⟩,(Nb.rfl.al _).al _⟩,rfl,rfl⟩
  ·have:=Blk.new (w1.alloc (.cells (madeCells #[.int .u8 0] M) 5)) #[.int .u8 0,.int .i64 0,.int .i64 n,.slice (some ⟨w.heap.size+1,0,none⟩) 0 M,.bool false,.bool false] 230
   rw[hs2]at this
   exact this
  ·rw[hs1]at hmade
   exact hmade.keep (Kp.alloc (F:=fun _=>False)) (by simp)
  ·rintro j (rfl | hj)
   ·omega
   ·simp[Value.ownBlock]at hj
    omega
 have HI:=zH hat0
 have HZ:=zH hZ
 clear h hc hG hM hat0 hmade hZ
 go_enter Tryz.func178,Tryz.ntmps178
 go_wp2_with fail
 refine(z3g a cap l _ (H.out.below (Nb.rfl.al _)) HC.out).mono ?_
 rintro e w' ⟨rfl,rfl⟩
 go_wp2_with fail
 rw[<- hw1]
 refine(z49 194 (.pointer (some ⟨w.heap.size+1+1,0,none⟩)) a cap l (RdI w1 (w.heap.size+1+1) n l) (RdJ w1 (w.heap.size+1+1) n l) _ hL HI.out (fun k wr hI=>(H.out.below nb1).below hI.1.2) (hcf _ _ Tryz.func194 (by rfl) (by decide +kernel)) (fun k x wr hI hx=>zbu w1 _ n l hbit.out hlen k x wr hI hx)).mono ?_
 rintro e w2 ⟨k,rfl,hJ⟩
 have hR:((∃v,z9j w2 (w.heap.size+1+1) n v pre (z0O pre) false/\∀j,(j=w.heap.size+1+1\/v.ownBlock=some j)->w1.heap.size<=j)/\Nb w1 w2)/\pre.length=k:=by
  have hg:=HG.out
  rcases hJ with ⟨rfl,h1,h2,_⟩ | ⟨hk,⟨h1,h2⟩ | ⟨_,h2⟩⟩
  ·rw[h2,List.drop_of_length_le (Nat.le_refl _),z0K]at hg
   simp only[Prod.mk.injEq,and_true]at hg
   rw[hg]at h1
   refine⟨h1,?_⟩
   rw[<- hg,List.length_take]
   omega
  ·rw[h2]at hg
   simp only[Prod.mk.injEq,and_true]at hg
   rw[hg]at h1
   refine⟨h1,?_⟩
   rw[<- hg,List.length_take]
   omega
  ·rw[h2]at hg
   simp only[Prod.mk.injEq]at hg
   exact absurd hg.2 (by simp)
 obtain⟨⟨⟨v,ha,hfo⟩,hnb⟩,hpl⟩:=hR
 have c0:w2.cell? ⟨w.heap.size+1+1,0,none⟩=some (.int .u8 (zq pre).1):=ha.blk.cell 0
 have c1:w2.cell? ⟨w.heap.size+1+1,1,none⟩=some (.int .i64 (zq pre).2):=ha.blk.cell 1
 have c2:w2.cell? ⟨w.heap.size+1+1,2,none⟩=some (.int .i64 n):=ha.blk.cell 2
 have c3:w2.cell? ⟨w.heap.size+1+1,3,none⟩=some v:=ha.blk.cell 3
 have c4:w2.cell? ⟨w.heap.size+1+1,4,none⟩=some (.bool (z0O pre)):=ha.blk.cell 4
 have c5:w2.cell? ⟨w.heap.size+1+1,5,none⟩=some (.bool false):=ha.blk.cell 5
 have hZ2:=HZ.out.nb hnb
 have z0:w2.cell? ⟨w.heap.size,0,none⟩=some (.int .u8 0):=hZ2.cell 0
 have z1:w2.cell? ⟨w.heap.size,1,none⟩=some (.int .i64 0):=hZ2.cell 1
 have z2:w2.cell? ⟨w.heap.size,2,none⟩=some (.int .i64 0):=hZ2.cell 2
 have z3:w2.cell? ⟨w.heap.size,3,none⟩=some (.slice none 0 0):=hZ2.cell 3
 have z4:w2.cell? ⟨w.heap.size,4,none⟩=some (.bool false):=hZ2.cell 4
 have z5:w2.cell? ⟨w.heap.size,5,none⟩=some (.bool false):=hZ2.cell 5
 have y0:=hZ2.frozen 0
 have y1:=hZ2.frozen 1
 have y2:=hZ2.frozen 2
 have y3:=hZ2.frozen 3
 have y4:=hZ2.frozen 4
 have y5:=hZ2.frozen 5
 have nb2:=nb1.tr hnb
 have hown:=ha.own
 obtain⟨a',c',rfl,_,_⟩:=hown.bs
 have hfr:∀w',Kp (fun x=>x=w.heap.size) w2 w'->zf w w' (.slice a' (zo pre).length c') (zo pre):=fun w' hk =>
  ⟨hown.keep hk (fun g hg e=>by have:=hfo g (.inr hg);omega),fun g hg=>by have:=hfo g (.inr hg);omega⟩
 have HFr:=zH hfr
 subst hpl
 clear hJ ha hw1 HI HZ hs1 hs2 hnb nb1 hown hfr hfo
 have hB:=z4N (v0 := .int .u8 (zq pre).1) (v1 := .int .i64 (zq pre).2) (v2 := .int .i64 n) (v3 := .slice a' (zo pre).length c') (v4 := .bool (z0O pre)) (v5 := .bool false) hZ2
 have hnbW:=z6U (b:=w.heap.size) nb2 (Nat.le_refl _) (.int .u8 (zq pre).1) (.int .i64 (zq pre).2) (.int .i64 n) (.slice a' (zo pre).length c') (.bool (z0O pre)) (.bool false)
 have hkW:=HFr.out _ (z9W w2 w.heap.size (.int .u8 (zq pre).1) (.int .i64 (zq pre).2) (.int .i64 n) (.slice a' (zo pre).length c') (.bool (z0O pre)) (.bool false))
 have HB:=zH hB
 have HW:=zH hnbW
 have HK:=zH hkW
 clear hB hnbW hZ2 hkW HFr
 go_wp2
 change bodyPost _ _ _ _ _ (zaE w2 w.heap.size (.int .u8 (zq pre).1) (.int .i64 (zq pre).2) (.int .i64 n) (.slice a' (zo pre).length c') (.bool (z0O pre)) (.bool false))
 generalize zaE w2 w.heap.size (.int .u8 (zq pre).1) (.int .i64 (zq pre).2) (.int .i64 n) (.slice a' (zo pre).length c') (.bool (z0O pre)) (.bool false)=W at *
 have e0:W.cell? ⟨w.heap.size,0,none⟩=_:=HB.out.cell 0
 have e1:W.cell? ⟨w.heap.size,1,none⟩=_:=HB.out.cell 1
 have e2:W.cell? ⟨w.heap.size,2,none⟩=_:=HB.out.cell 2
 have e3:W.cell? ⟨w.heap.size,3,none⟩=_:=HB.out.cell 3
 have e4:W.cell? ⟨w.heap.size,4,none⟩=_:=HB.out.cell 4
 have e5:W.cell? ⟨w.heap.size,5,none⟩=_:=HB.out.cell 5
 exact bodyPost_ret (v := .tuple #[rdV pre n (.slice a' (zo pre).length c') (z0O pre),.int .i64 pre.length,.int .i64 0]) (by simp[results,Tryz.results178,go_sem,rdV,e0,e1,e2,e3,e4,e5]) rfl ⟨⟨_,_,rfl,HK.out⟩,HW.out⟩
def ziz(l:List Nat)(er:Nat):Prop:=(chk l=false/\er=2)\/(chk l=true/\okS l=false/\er=4)
theorem z6M (a:Option Addr) (cap:Nat) (l:List Nat) (er:Nat) (w:World) (h:Bs w a cap l) (he:ziz l er) :
    Calls Tryz.prog 178 #[.slice a l.length cap,.int .i64 l.length] w fun e w'=>e = .returned (.tuple #[rdZ,.int .i64 0,.int .i64 er])/\Nb w w':=by
 rcases he with ⟨hc,rfl⟩ | ⟨hc,ho,rfl⟩
 ·exact zaW a cap l l.length w h hc
 ·have hG:=z8i l
  rw[ho]at hG
  exact z6r a cap l l.length w h hc (z1h hc) hG
theorem z6b (a:Option Addr) (cap:Nat) (l:List Nat) (w:World) (h:Bs w a cap l) (hc:chk l=true) (ho:okS l=true) :
    Calls Tryz.prog 178 #[.slice a l.length cap,.int .i64 l.length] w fun e w'=>(∃a c,e = .returned (.tuple #[rdV l l.length (.slice a (zo l).length c) (z0O l),.int .i64 l.length,.int .i64 0])/\zf w w' (.slice a (zo l).length c) (zo l))/\Nb w w':=by
 have hG:=z8i l
 rw[ho]at hG
 exact z5m a cap l l.length w h hc (z1h hc) l hG
theorem Blk.six {u0 u1 u2 u3 u4 u5:Value} {t:TypeId} (h:Blk w b #[u0,u1,u2,u3,u4,u5] t) :
    w.cell? ⟨b,0,none⟩=some u0/\w.cell? ⟨b,1,none⟩=some u1/\w.cell? ⟨b,2,none⟩=some u2/\w.cell? ⟨b,3,none⟩=some u3/\w.cell? ⟨b,4,none⟩=some u4/\w.cell? ⟨b,5,none⟩=some u5 /\
    w.frozen? ⟨b,0,none⟩=false/\w.frozen? ⟨b,1,none⟩=false/\w.frozen? ⟨b,2,none⟩=false/\w.frozen? ⟨b,3,none⟩=false/\w.frozen? ⟨b,4,none⟩=false/\w.frozen? ⟨b,5,none⟩=false :=
 ⟨h.cell 0,h.cell 1,h.cell 2,h.cell 3,h.cell 4,h.cell 5,h.frozen 0,h.frozen 1,h.frozen 2,h.frozen 3,h.frozen 4,h.frozen 5⟩
theorem z9u (a:Option Addr) (cap:Nat) (l:List Nat) (er:Nat) (w:World) (h:Bs w a cap l) (he:ziz l er) :
    Calls Tryz.prog 180 #[.slice a l.length cap] w fun e w'=>e = .returned (.tuple #[rdZ,.int .i64 er])/\Nb w w':=by
 have hL:=h.len
 have H:=zH h
 have HE:=zH he
 obtain⟨w1,hw1⟩:∃w1,w1=w.alloc (.cells #[.int .u8 0,.int .i64 0,.int .i64 0,.slice none 0 0,.bool false,.bool false] 230):=⟨_,rfl⟩
 have nb1:Nb w w1:=by rw[hw1];exact Nb.rfl.al _
 have hs1:w.heap.size < w1.heap.size:=by rw[hw1];simp
 have hZ:Blk w1 w.heap.size #[.int .u8 0,.int .i64 0,.int .i64 0,.slice none 0 0,.bool false,.bool false] 230:=by rw[hw1];exact Blk.new _ _ _
 have HZ:=zH hZ
 clear h hZ he
 go_enter Tryz.func180,Tryz.ntmps180
 go_wp2_with fail
 rw[<- hw1]
 refine(z6M a cap l er w1 (H.out.below nb1) HE.out).mono ?_
 rintro e w2 ⟨rfl,hnb⟩
 clear hw1
 have hlt:=(HZ.out.nb hnb).lt
 have hZ2:=HZ.out.nb hnb
 obtain⟨z0,z1,z2,z3,z4,z5,y0,y1,y2,y3,y4,y5⟩:=(HZ.out.nb hnb).six
 have nb2:Nb w w2:=nb1.tr hnb
 have hB:=(z4N (v0 := .int .u8 0) (v1 := .int .i64 0) (v2 := .int .i64 0) (v3 := .slice none 0 0) (v4 := .bool false) (v5 := .bool false) hZ2).keep (Kp.alloc (F:=fun _=>False) (o := .cells #[.int .u8 0,.int .i64 0,.int .i64 0,.slice none 0 0,.bool false,.bool false] 230)) (by simp)
 have hnbW:=(z6U (b:=w.heap.size) nb2 (Nat.le_refl _) (.int .u8 0) (.int .i64 0) (.int .i64 0) (.slice none 0 0) (.bool false) (.bool false)).al (.cells #[.int .u8 0,.int .i64 0,.int .i64 0,.slice none 0 0,.bool false,.bool false] 230)
 have HB:=zH hB
 have HW:=zH hnbW
 clear hB hnbW hZ2 HZ
 unfold rdZ
 go_wp2
 change bodyPost _ _ _ _ _ ((zaE w2 w.heap.size (.int .u8 0) (.int .i64 0) (.int .i64 0) (.slice none 0 0) (.bool false) (.bool false)).alloc (.cells #[.int .u8 0,.int .i64 0,.int .i64 0,.slice none 0 0,.bool false,.bool false] 230))
 generalize ((zaE w2 w.heap.size (.int .u8 0) (.int .i64 0) (.int .i64 0) (.slice none 0 0) (.bool false) (.bool false)).alloc (.cells #[.int .u8 0,.int .i64 0,.int .i64 0,.slice none 0 0,.bool false,.bool false] 230))=W at *
 obtain⟨e0,e1,e2,e3,e4,e5,_⟩:=HB.out.six
 exact bodyPost_ret (v := .tuple #[rdZ,.int .i64 er]) (by simp[results,Tryz.results180,go_sem,rdZ,e0,e1,e2,e3,e4,e5]) rfl ⟨rfl,HW.out⟩
theorem z8X (a:Option Addr) (cap:Nat) (l:List Nat) (w:World) (h:Bs w a cap l) (hc:chk l=true) (ho:okS l=true) :
    Calls Tryz.prog 180 #[.slice a l.length cap] w fun e w'=>(∃a c,e = .returned (.tuple #[rdV l l.length (.slice a (zo l).length c) (z0O l),.int .i64 0])/\zf w w' (.slice a (zo l).length c) (zo l))/\Nb w w':=by
 have hL:=h.len
 have H:=zH h
 have HC:=zH hc
 have HO:=zH ho
 obtain⟨w1,hw1⟩:∃w1,w1=w.alloc (.cells #[.int .u8 0,.int .i64 0,.int .i64 0,.slice none 0 0,.bool false,.bool false] 230):=⟨_,rfl⟩
 have nb1:Nb w w1:=by rw[hw1];exact Nb.rfl.al _
 have hs1:w.heap.size < w1.heap.size:=by rw[hw1];simp
 have hZ:Blk w1 w.heap.size #[.int .u8 0,.int .i64 0,.int .i64 0,.slice none 0 0,.bool false,.bool false] 230:=by rw[hw1];exact Blk.new _ _ _
 have HZ:=zH hZ
 clear h hZ hc ho
 go_enter Tryz.func180,Tryz.ntmps180
 go_wp2_with fail
 rw[<- hw1]
 refine(z6b a cap l w1 (H.out.below nb1) HC.out HO.out).mono ?_
 rintro e w2 ⟨⟨a',c',rfl,hfr⟩,hnb⟩
 clear hw1
 have hlt:=(HZ.out.nb hnb).lt
 have hZ2:=HZ.out.nb hnb
 obtain⟨z0,z1,z2,z3,z4,z5,y0,y1,y2,y3,y4,y5⟩:=(HZ.out.nb hnb).six
 have nb2:Nb w w2:=nb1.tr hnb
 have hB:=(z4N (v0 := .int .u8 (zq l).1) (v1 := .int .i64 (zq l).2) (v2 := .int .i64 l.length) (v3 := .slice a' (zo l).length c') (v4 := .bool (z0O l)) (v5 := .bool false) hZ2).keep (Kp.alloc (F:=fun _=>False) (o := .cells #[.int .u8 (zq l).1,.int .i64 (zq l).2,.int .i64 l.length,.slice a' (zo l).length c',.bool (z0O l),.bool false] 230)) (by simp)
 have hnbW:=(z6U (b:=w.heap.size) nb2 (Nat.le_refl _) (.int .u8 (zq l).1) (.int .i64 (zq l).2) (.int .i64 l.length) (.slice a' (zo l).length c') (.bool (z0O l)) (.bool false)).al (.cells #[.int .u8 (zq l).1,.int .i64 (zq l).2,.int .i64 l.length,.slice a' (zo l).length c',.bool (z0O l),.bool false] 230)
 have hkW:zf w ((zaE w2 w.heap.size (.int .u8 (zq l).1) (.int .i64 (zq l).2) (.int .i64 l.length) (.slice a' (zo l).length c') (.bool (z0O l)) (.bool false)).alloc (.cells #[.int .u8 (zq l).1,.int .i64 (zq l).2,.int .i64 l.length,.slice a' (zo l).length c',.bool (z0O l),.bool false] 230)) (.slice a' (zo l).length c') (zo l):=by
  refine⟨(hfr.1.keep (z9W _ _ _ _ _ _ _ _) (fun g hg e => ?_)).keep (Kp.alloc (F:=fun _=>False)) (by simp),fun g hg => ?_⟩
  ·have:=hfr.2 g hg;omega
  ·have:=hfr.2 g hg;omega
 have HK:=zH hkW
 clear hkW hfr
 have HB:=zH hB
 have HW:=zH hnbW
 clear hB hnbW hZ2 HZ
 unfold rdV
 go_wp2
 change bodyPost _ _ _ _ _ ((zaE w2 w.heap.size (.int .u8 (zq l).1) (.int .i64 (zq l).2) (.int .i64 l.length) (.slice a' (zo l).length c') (.bool (z0O l)) (.bool false)).alloc (.cells #[.int .u8 (zq l).1,.int .i64 (zq l).2,.int .i64 l.length,.slice a' (zo l).length c',.bool (z0O l),.bool false] 230))
 generalize ((zaE w2 w.heap.size (.int .u8 (zq l).1) (.int .i64 (zq l).2) (.int .i64 l.length) (.slice a' (zo l).length c') (.bool (z0O l)) (.bool false)).alloc (.cells #[.int .u8 (zq l).1,.int .i64 (zq l).2,.int .i64 l.length,.slice a' (zo l).length c',.bool (z0O l),.bool false] 230))=W at *
 obtain⟨e0,e1,e2,e3,e4,e5,_⟩:=HB.out.six
 exact bodyPost_ret (v := .tuple #[rdV l l.length (.slice a' (zo l).length c') (z0O l),.int .i64 0]) (by simp[results,Tryz.results180,go_sem,rdV,e0,e1,e2,e3,e4,e5]) rfl ⟨⟨_,_,rfl,HK.out⟩,HW.out⟩
def stB(l:List Nat)(n:Int):Prop:=n < 0\/65536 < n\/chk l=false
open Classical in
noncomputable def stE (l:List Nat) (n:Int):Nat:=if stB l n then 2 else if(z0K n.toNat [] l).2 then 4 else if(zo (z0K n.toNat [] l).1).length < n.toNat then 3 else 0
open Classical in
noncomputable def stL (l:List Nat) (n:Int):List Nat:=if stE l n=0 then zo (z0K n.toNat [] l).1 else []
open Classical in
noncomputable def stK (l:List Nat) (n:Int):Nat:=if stE l n=0 then(z0K n.toNat [] l).1.length else 0
theorem z6q (a:Option Addr) (cap:Nat) (l:List Nat) (er:Nat) (w:World) (h:Bs w a cap l) (he:ziz l er) :
    Calls Tryz.prog 156 #[.slice a l.length cap] w fun e w'=>e = .returned (.tuple #[.int .i64 (0:Nat),.int .i64 er])/\Nb w w':=by
 have hd:((er:Int) != 0)=true:=by rcases he with ⟨_,rfl⟩ | ⟨_,_,rfl⟩<;>decide
 have H:=zH h
 have HE:=zH he
 clear h he
 go_enter Tryz.func156,Tryz.ntmps156
 go_wp2_with fail
 refine(z9u a cap l er w H.out HE.out).mono ?_
 rintro e w2 ⟨rfl,hnb⟩
 unfold rdZ
 go_wp2
 go_ret2
 exact⟨rfl,hnb.al _⟩
theorem zfx (a:Option Addr) (cap:Nat) (l:List Nat) (w:World) (h:Bs w a cap l) (hc:chk l=true) (ho:okS l=true) :
    Calls Tryz.prog 156 #[.slice a l.length cap] w fun e w'=>e = .returned (.tuple #[.int .i64 (l.length - (zo l).length:Nat),.int .i64 (0:Nat)])/\Nb w w':=by
 have H:=zH h
 have HC:=zH hc
 have HO:=zH ho
 have hlen:=z1h hc
 have ht:=z1H l
 have hsub:((l.length:Int) - ((zo l).length:Int))=((l.length - (zo l).length:Nat):Int):=by omega
 have HS:=zH hsub
 clear h hc ho hsub
 go_enter Tryz.func156,Tryz.ntmps156
 go_wp2_with fail
 refine(z8X a cap l w H.out HC.out HO.out).mono ?_
 rintro e w2 ⟨⟨a',c',rfl,hfr⟩,hnb⟩
 unfold rdV
 clear hfr
 go_wp2
 go_ret2
 exact⟨by rw[HS.out];rfl,hnb.al _⟩
theorem zg9 (a:Option Addr) (cap:Nat) (l:List Nat) (w:World) (h:Bs w a cap l) :
    Calls Tryz.prog 156 #[.slice a l.length cap] w fun e w'=>e = .returned (.tuple #[.int .i64 (scN l),.int .i64 (scE l)])/\Nb w w':=by
 cases hc:chk l with
 | false =>
   simp only[scN,scE,hc,Bool.false_eq_true,if_false]
   exact z6q a cap l 2 w h (.inl ⟨hc,rfl⟩)
 | true =>
   cases ho:okS l with
   | false =>
     simp only[scN,scE,hc,ho,if_true,Bool.false_eq_true,if_false]
     exact z6q a cap l 4 w h (.inr ⟨hc,ho,rfl⟩)
   | true =>
     simp only[scN,scE,hc,ho,if_true]
     exact zfx a cap l w h hc ho
def z6c(w:World)(l:List Nat)(k er:Nat)(e:Ending)(w':World):Prop:=∃a c,e = .returned (.tuple #[.slice a l.length c,.int .i64 k,.int .i64 er])/\zf w w' (.slice a l.length c) l
theorem zfk (a:Option Addr) (cap:Nat) (l:List Nat) (n:Int) (w:World) (hn:n < 0\/65536 < n) :
    Calls Tryz.prog 153 #[.slice a l.length cap,.int .i64 n] w fun e w'=>z6c w [] 0 2 e w'/\Nb w w':=by
 by_cases h0:n < 0
 ·go_enter Tryz.func153,Tryz.ntmps153
  go_wp2
  go_ret3
  exact⟨⟨_,_,rfl,zf.nil _ _⟩,Nb.rfl⟩
 ·have h1:65536 < n:=by omega
  clear hn
  go_enter Tryz.func153,Tryz.ntmps153
  go_wp2
  go_ret3
  exact⟨⟨_,_,rfl,zf.nil _ _⟩,Nb.rfl⟩
theorem z87 (a:Option Addr) (cap:Nat) (l:List Nat) (n er:Nat) (w:World) (h:Bs w a cap l) (hn:n<=65536) (he:(chk l=false/\er=2)\/(chk l=true/\(z0K n [] l).2=true/\er=4)) :
    Calls Tryz.prog 153 #[.slice a l.length cap,.int .i64 n] w fun e w'=>z6c w [] 0 er e w'/\Nb w w':=by
 have hd:((er:Int) != 0)=true:=by rcases he with ⟨_,rfl⟩ | ⟨_,_,rfl⟩<;>decide
 have hrd:Calls Tryz.prog 178 #[.slice a l.length cap,.int .i64 n] w fun e w'=>e = .returned (.tuple #[rdZ,.int .i64 0,.int .i64 er])/\Nb w w':=by
  rcases he with ⟨hc,rfl⟩ | ⟨hc,ho,rfl⟩
  ·exact zaW a cap l n w h hc
  ·exact z6r a cap l n w h hc hn ho
 have HR:=zH hrd
 have d1:decide ((n:Int) < 0)=false:=by simp
 have d2:decide (65536 < (n:Int))=false:=by simp;omega
 clear h he hrd
 go_enter Tryz.func153,Tryz.ntmps153
 go_wp2_with fail
 refine HR.out.mono ?_
 rintro e w2 ⟨rfl,hnb⟩
 unfold rdZ
 go_wp2
 go_ret3
 exact⟨⟨_,_,rfl,zf.nil _ _⟩,hnb.al _⟩
theorem z9y (a:Option Addr) (cap:Nat) (l:List Nat) (n:Nat) (w:World) (h:Bs w a cap l) (hn:n<=65536) (hc:chk l=true) (pre:List Nat) (hG:z0K n [] l=(pre,false)) (hs:(zo pre).length < n) :
    Calls Tryz.prog 153 #[.slice a l.length cap,.int .i64 n] w fun e w'=>z6c w [] 0 3 e w'/\Nb w w':=by
 have hrd:=z5m a cap l n w h hc hn pre hG
 have HR:=zH hrd
 have d1:decide ((n:Int) < 0)=false:=by simp
 have d2:decide (65536 < (n:Int))=false:=by simp;omega
 clear h hc hrd hG
 go_enter Tryz.func153,Tryz.ntmps153
 go_wp2_with fail
 refine HR.out.mono ?_
 rintro e w2 ⟨⟨a',c',rfl,hfr⟩,hnb⟩
 unfold rdV
 clear hfr
 go_wp2
 go_ret3
 exact⟨⟨_,_,rfl,zf.nil _ _⟩,hnb.al _⟩
theorem zgs (a:Option Addr) (cap:Nat) (l:List Nat) (n:Nat) (w:World) (h:Bs w a cap l) (hn:n<=65536) (hc:chk l=true) (pre:List Nat) (hG:z0K n [] l=(pre,false)) (hs:¬(zo pre).length < n) :
    Calls Tryz.prog 153 #[.slice a l.length cap,.int .i64 n] w fun e w'=>z6c w (zo pre) pre.length 0 e w'/\Nb w w':=by
 have hrd:=z5m a cap l n w h hc hn pre hG
 have HR:=zH hrd
 have d1:decide ((n:Int) < 0)=false:=by simp
 have d2:decide (65536 < (n:Int))=false:=by simp;omega
 clear h hc hrd hG
 go_enter Tryz.func153,Tryz.ntmps153
 go_wp2_with fail
 refine HR.out.mono ?_
 rintro e w2 ⟨⟨a',c',rfl,hfr⟩,hnb⟩
 unfold rdV
 have HFr:=zH hfr
 clear hfr
 go_wp2
 go_ret3
 exact⟨⟨_,_,rfl,HFr.out.keep (Nb.rfl.al _)⟩,hnb.al _⟩
theorem zjv (a:Option Addr) (cap:Nat) (l:List Nat) (n:Int) (w:World) (h:Bs w a cap l) :
    Calls Tryz.prog 153 #[.slice a l.length cap,.int .i64 n] w fun e w'=>z6c w (stL l n) (stK l n) (stE l n) e w'/\Nb w w':=by
 by_cases hb:stB l n
 ·have e1:stE l n=2:=by simp[stE,hb]
  have e2:stL l n=[]:=by simp[stL,e1]
  have e3:stK l n=0:=by simp[stK,e1]
  rw[e1,e2,e3]
  by_cases hn:n < 0\/65536 < n
  ·exact zfk a cap l n w hn
  ·have hc:chk l=false:=by
    rcases hb with hb | hb | hb
    ·exact absurd (.inl hb) hn
    ·exact absurd (.inr hb) hn
    ·exact hb
   obtain⟨m,rfl⟩:=Int.eq_ofNat_of_zero_le (by omega:0<=n)
   exact z87 a cap l m 2 w h (by omega) (.inl ⟨hc,rfl⟩)
 ·have hc:chk l=true:=by
   cases hc:chk l with
   | true=>rfl
   | false=>exact absurd (.inr (.inr hc)) hb
  have hn0:¬n < 0:=fun h=>hb (.inl h)
  have hn1:¬65536 < n:=fun h=>hb (.inr (.inl h))
  obtain⟨m,rfl⟩:=Int.eq_ofNat_of_zero_le (by omega:0<=n)
  obtain⟨pre,bad,hG⟩:∃pre bad,z0K m [] l=(pre,bad):=⟨_,_,rfl⟩
  cases bad with
  | true =>
    have e1:stE l m=4:=by simp[stE,hb,hG]
    have e2:stL l m=[]:=by simp[stL,e1]
    have e3:stK l m=0:=by simp[stK,e1]
    rw[e1,e2,e3]
    exact z87 a cap l m 4 w h (by omega) (.inr ⟨hc,by rw[hG],rfl⟩)
  | false =>
    by_cases hs:(zo pre).length < m
    ·have e1:stE l m=3:=by simp[stE,hb,hG,hs]
     have e2:stL l m=[]:=by simp[stL,e1]
     have e3:stK l m=0:=by simp[stK,e1]
     rw[e1,e2,e3]
     exact z9y a cap l m w h (by omega) hc pre hG hs
    ·have e1:stE l m=0:=by simp[stE,hb,hG];omega
     have e2:stL l m=zo pre:=by simp[stL,e1,hG]
     have e3:stK l m=pre.length:=by simp[stK,e1,hG]
     rw[e1,e2,e3]
     exact zgs a cap l m w h (by omega) hc pre hG hs
theorem z0g(h:∀x∈l,x<=1)(hl:l.length<=65536):chk l=true:=by
 simp only[chk,Bool.and_eq_true,decide_eq_true_eq,List.all_eq_true]
 exact⟨hl,h⟩
theorem ziJ(h:chk l=true)(hl:l.length<=30000):spE l=0/\spL l=zh l/\chk (zh l)=true:=by
 have h2:=(zr l).1
 have h3:(zh l).length<=65536:=by omega
 simp only[spE,spL,h,if_true,if_pos h3,true_and]
 exact z0g (z0j (z0C h)) h3
theorem zkM(h:chk l=true)(hl:l.length<=30000):sgL (zh l)=l/\sgE (zh l)=0/\scN (zh l)=(zh l).length - l.length/\scE (zh l)=0:=by
 obtain⟨_,_,h3⟩:=ziJ h hl
 have ho:=z2q (z0C h)
 obtain⟨ht,hs⟩:=z1w (z0C h)
 simp[sgL,sgE,scN,scE,h3,ho,ht,hs]
theorem zck {more:List Nat} (hl:chk l=true) (hm:chk more=true) (h1:l.length<=2000) (h2:more.length<=2000) (hk:k<=l.length) :
    stE (zh l++more) (k:Int)=0/\stL (zh l++more) (k:Int)=l.take k/\stK (zh l++more) (k:Int)=(zh (l.take k)).length:=by
 have hb:=z0C hl
 have hG:=z9D hb more hk
 have hlen:=(zr l).1
 have hc:chk (zh l++more)=true:=z0g (fun x hx=>by
  rcases List.mem_append.1 hx with h | h
  ·exact z0j hb x h
  ·exact z0C hm x h) (by rw[List.length_append];omega)
 have ht:=(z1w (l:=l.take k) (fun x hx=>hb x (List.mem_of_mem_take hx))).1
 have hn:¬stB (zh l++more) (k:Int):=by
  rintro(h | h | h)
  ·omega
  ·omega
  ·rw[hc]at h;cases h
 have hlt:(l.take k).length=k:=by rw[List.length_take];omega
 have e0:stE (zh l++more) (k:Int)=0:=by simp[stE,hn,hG,ht,hlt]
 exact⟨e0,by simp[stL,e0,hG,ht],by simp[stK,e0,hG]⟩
end Go.Proofs.YtplbmlpdefpplaaGreatDoor
