
/- Error counters as numbers: what may be, how it is, what comes of an event. No program here. No conditions. -/
import Derived.Test.YtplbmlpdefpplaaGreatDoorGa
namespace Go.Proofs.YtplbmlpdefpplaaGreatDoor
set_option linter.unusedVariables false
set_option linter.unusedSimpArgs false
open Go.RowKit
structure Fa where
 T:Int
 R:Int
 O:Bool
@[ext] theorem Fa.ext' {a b:Fa} (h1:a.T=b.T) (h2:a.R=b.R) (h3:a.O=b.O):a=b:=by
  cases a;cases b;simp_all
def Fa.zero:Fa:=⟨0,0,false⟩
def Fa.cs(s:Fa):Array Value:=#[.int .i64 s.T,.int .i64 s.R,.bool s.O]
def z2D(s:Fa):Bool:=decide (0<=s.T)&&(decide (s.T<=263)&&(decide (0<=s.R)&&(decide (s.R<=255)&&(s.O==decide (255 < s.T)))))
theorem zbh(s:Fa):z2D s=true↔0<=s.T/\s.T<=263/\0<=s.R/\s.R<=255/\s.O=decide (255 < s.T):=by
 simp[z2D]
def z68(s:Fa):Nat:=if z2D s then 0 else 2
def z2L(s:Fa):Nat:=if s.O then 2 else if 127 < s.T\/127 < s.R then 1 else 0
def z14(s:Fa)(e:Int):Fa :=
 if s.O then(if e=6 then Fa.zero else s)
 else if e=1 then⟨max 0 (s.T - 1),s.R,false⟩
 else if e=2 then⟨s.T,if 127 < s.R then 120 else max 0 (s.R - 1),false⟩
 else if e=3 then⟨s.T+8,s.R,decide (255 < s.T+8)⟩
 else if e=4 then⟨s.T,min 255 (s.R+1),false⟩
 else if e=5 then(if z2L s=0 then⟨s.T+8,s.R,decide (255 < s.T+8)⟩else s)
 else s
def zfN(e:Int):Bool:=decide (1<=e)&&decide (e<=6)
theorem z7z(e:Int):zfN e=true↔1<=e/\e<=6:=by simp[zfN]
def zhw(s:Fa)(e:Int):Fa:=if z2D s&&zfN e then z14 s e else Fa.zero
def nxE(s:Fa)(e:Int):Nat:=if z2D s&&zfN e then 0 else 2
theorem z5a{s:Fa}(h:z2D s=true)(e:Int):z2D (z14 s e)=true:=by
 obtain⟨T,R,O⟩:=s
 rw[zbh]at h ⊢
 simp only at h
 obtain⟨h1,h2,h3,h4,h5⟩:=h
 unfold z14 z2L
 simp only
 cases O with
 | true =>
   have ht:255 < T:=by simpa using h5.symm
   simp only[if_true]
   split
   ·simp[Fa.zero]
   ·exact⟨h1,h2,h3,h4,by simpa using ht⟩
 | false =>
   have ht:¬255 < T:=by simpa using h5.symm
   simp only[Bool.false_eq_true,if_false]
   split
   ·refine⟨?_,?_,h3,h4,?_⟩<;>simp only<;>(try simp)<;>omega
   split
   ·refine⟨h1,h2,?_,?_,?_⟩<;>simp only<;>first | (split<;>omega) | (simp;omega)
   split
   ·refine⟨?_,?_,h3,h4,?_⟩<;>simp only<;>omega
   split
   ·refine⟨h1,h2,?_,?_,?_⟩<;>simp only<;>first | omega | (simp;omega)
   split
   ·by_cases hp:127 < T\/127 < R
    ·rw[if_pos hp,if_neg (by omega)]
     exact⟨h1,h2,h3,h4,by simp;omega⟩
    ·rw[if_neg hp,if_pos rfl]
     refine⟨?_,?_,h3,h4,?_⟩<;>simp only<;>omega
   ·exact⟨h1,h2,h3,h4,by simp;omega⟩
end Go.Proofs.YtplbmlpdefpplaaGreatDoor
