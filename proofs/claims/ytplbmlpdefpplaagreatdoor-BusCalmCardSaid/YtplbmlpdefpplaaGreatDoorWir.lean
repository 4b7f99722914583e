
/- Rows on the wire in general: where the rows of two identifiers differ first, how long a run is behind bits at fixed places. No conditions. -/
import Derived.Test.YtplbmlpdefpplaaGreatDoorClaP
import Derived.Test.YtplbmlpdefpplaaGreatDoorGx
namespace Go.Proofs.YtplbmlpdefpplaaGreatDoor
set_option linter.unusedVariables false
set_option linter.unusedSimpArgs false
open Go.RowKit
variable {A:Bool} {l x:List Nat} {E b n r:Nat}
theorem z3Q {H H' T T' X X':List Nat} (h:Less H H'):∃d,d < (zh H).length/\d < (zh H').length /\
    (∀k,k < d->(zh (H++T)++X).getD k 0=(zh (H'++T')++X').getD k 0)/\(zh (H++T)++X).getD d 0=0/\(zh (H'++T')++X').getD d 0=1:=by
 obtain⟨d,h1,h2,h3,h4,h5⟩:=zgU h
 obtain⟨Y,hY⟩:=z1g H T
 obtain⟨Y',hY'⟩:=z1g H' T'
 rw[hY,hY',List.append_assoc,List.append_assoc]
 have key:∀ {P Z:List Nat} {k:Nat},k < P.length->(P++Z).getD k 0=P.getD k 0:=fun hk=>by rw[List.getD,List.getElem?_append_left hk,<- List.getD]
 refine⟨d,h1,h2,fun k hk => ?_,by rw[key h1,h4],by rw[key h2,h5]⟩
 rw[key (by omega),key (by omega)]
 have e1:((zh H).take d).getD k 0=(zh H).getD k 0:=by simp[List.getD,hk]
 have e2:((zh H').take d).getD k 0=(zh H').getD k 0:=by simp[List.getD,hk]
 rw[<- e1,<- e2,h3]
theorem z16(x:List Nat)(b:Nat):(zq (x++[b])).2<=(zq x).2+1/\1<=(zq (x++[b])).2:=by
 rw[z07]
 unfold z1I
 split
 ·exact⟨Nat.le_refl _,by simp only;omega⟩
 ·exact⟨by simp only;omega,Nat.le_refl _⟩
theorem z2f(h:b≠zl x):(zq (x++[b])).2=1:=by
 rw[z07]
 unfold z1I
 rw[if_neg (show ¬b=(zq x).1 from h)]
theorem za7{y:List Nat}:z1l (zl x) y=zl (x++y):=by
 by_cases h:y=[]
 ·subst h;simp[z1l]
 ·rw[z1l,if_neg h,z1K]
  have hl:0 < y.length:=List.length_pos_iff.2 h
  rw[List.length_append,List.getD,List.getD,List.getElem?_append_right (by omega)]
  congr 2
  omega
def zcS(E:Nat)(A:Bool)(r n:Nat):Nat:=if n=0 then r else if A=true\/E < n then(n - 1)%E+2 else r+n
theorem zgn(hE:1<=E)(h:z2j E A n=true):zcS E A r (n+1)=2:=by
 unfold z2j at h
 unfold zcS
 rw[if_neg (by omega)]
 by_cases h0:n=0
 ·subst h0
  simp only[if_true]at h
  rw[if_pos (.inl h)]
  simp
 ·rw[if_neg h0,decide_eq_true_eq]at h
  rw[if_pos (.inr (by
   rcases Nat.lt_or_ge n E with h1 | h1
   ·rw[Nat.mod_eq_of_lt h1]at h;omega
   ·omega)),Nat.add_sub_cancel,h]
theorem zcP(hE:1<=E)(h:z2j E A n=false):zcS E A r (n+1)=zcS E A r n+1:=by
 unfold z2j at h
 unfold zcS
 rw[if_neg (show ¬n+1=0 by omega)]
 by_cases h0:n=0
 ·subst h0
  simp only[if_true]at h
  subst h
  rw[if_neg (by simp;omega),if_pos rfl]
 ·rw[if_neg h0,decide_eq_false_iff_not]at h
  rw[if_neg h0,Nat.add_sub_cancel]
  have hm:n%E=(n - 1)%E+1:=by
   have h1:=Nat.mod_lt (n - 1) (show 0 < E by omega)
   have h2:n=(n - 1)+1:=by omega
   have h3:=Nat.add_mod (n - 1) 1 E
   rw[<- h2]at h3
   rcases Nat.lt_or_ge 1 E with hE1 | hE1
   ·rw[Nat.mod_eq_of_lt hE1]at h3
    rcases Nat.lt_or_ge ((n - 1)%E+1) E with h4 | h4
    ·rw[Nat.mod_eq_of_lt h4]at h3;exact h3
    ·have:(n - 1)%E+1=E:=by omega
     rw[this,Nat.mod_self]at h3
     exact absurd h3 h
   ·have:E=1:=by omega
    subst this
    rw[Nat.mod_one]at h
    exact absurd rfl h
  by_cases hA:A=true
  ·rw[if_pos (.inl hA),if_pos (.inl hA),hm]
  ·by_cases hn:E < n
   ·rw[if_pos (.inr (by omega)),if_pos (.inr hn),hm]
   ·rw [if_neg (by rintro(h1 | h1);exact hA h1;have:n=E:=by omega
                   subst this;rw[Nat.mod_self]at h;exact h rfl),if_neg (by rintro(h1 | h1);exact hA h1;exact hn h1)]
    omega
theorem zjl(hE:1<=E)(hb:E+1<=b)(hr:r<=b)(h0:A=true\/r+E<=b):zcS E A r n<=b:=by
 unfold zcS
 split
 ·exact hr
 ·split
  ·have:=Nat.mod_lt (n - 1) (show 0 < E by omega)
   omega
  ·rename_i h1 h2
   rcases h0 with h0 | h0
   ·exact absurd (.inl h0) h2
   ·have:¬E < n:=fun h=>h2 (.inr h)
    omega
theorem zeh (hE:1<=E) (hb:E+1<=b) (hx:∀k,(zq (x.take k)).2<=b) (hp:zl x<=1) (h0:A=true\/(zq x).2+E<=b):(∀y∈l,y<=1) ->
    (zq (x++zv E A (zl x) l)).2<=zcS E A (zq x).2 l.length/\∀k,(zq ((x++zv E A (zl x) l).take k)).2<=b:=by
 have hr:(zq x).2<=b:=by have:=hx x.length;rwa[List.take_length]at this
 refine zB (P:=fun l=>(∀y∈l,y<=1)->(zq (x++zv E A (zl x) l)).2<=zcS E A (zq x).2 l.length/\∀k,(zq ((x++zv E A (zl x) l).take k)).2<=b) ?_ ?_ l
 ·intro _
  rw[zd7,List.append_nil]
  exact⟨by simp[zcS],hx⟩
 ·intro l c ih hbit
  have hbl:∀y∈l,y<=1:=fun y hy=>hbit y (List.mem_append_left _ hy)
  obtain⟨i1,i2⟩:=ih hbl
  rw[z1L,List.length_append,List.length_singleton]
  have hF:=zjl (E:=E) (n:=l.length+1) (A:=A) hE hb hr h0
  have hlast:z1l (zl x) (zv E A (zl x) l)=zl (x++zv E A (zl x) l):=za7
  have hle:zl (x++zv E A (zl x) l)<=1:=by
   rw[<- hlast]
   exact z58 hp (z2e hbl)
  rw[hlast]
  have grow:∀(Y:List Nat) (z:Nat),(∀k,(zq (Y.take k)).2<=b)->(zq (Y++[z])).2<=b->∀k,(zq ((Y++[z]).take k)).2<=b:=by
   intro Y z h1 h2 k
   rcases Nat.lt_or_ge Y.length k with hk | hk
   ·rw[List.take_of_length_le (by simp;omega)];exact h2
   ·rw[List.take_append_of_le_length hk];exact h1 k
  cases hd:z2j E A l.length with
  | true =>
    simp only[if_true,<- List.append_assoc]
    rw[zgn hE hd]at hF ⊢
    clear hlast
    generalize x++zv E A (zl x) l=X at *
    have e1:(zq (X++[1 - zl X])).2=1:=z2f (by omega)
    have e2:=z16 (X++[1 - zl X]) c
    rw[e1]at e2
    rw[show X++[1 - zl X,c]=(X++[1 - zl X])++[c] by simp]
    exact⟨e2.1,grow _ _ (grow _ _ i2 (by rw[e1];omega)) (by omega)⟩
  | false =>
    simp only[Bool.false_eq_true,if_false,<- List.append_assoc]
    rw[zcP hE hd]at hF ⊢
    clear hlast
    generalize x++zv E A (zl x) l=X at *
    have e2:=(z16 X c).1
    exact⟨by omega,grow _ _ i2 (by omega)⟩
end Go.Proofs.YtplbmlpdefpplaaGreatDoor
