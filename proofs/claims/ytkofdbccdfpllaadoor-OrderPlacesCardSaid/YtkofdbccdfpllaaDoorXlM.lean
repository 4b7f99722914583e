
/- What an XL frame has at most, and what one that may be is in numbers. No conditions but the fields' own widths. -/
import Derived.Test.YtkofdbccdfpllaaDoorXlP
namespace Go.Proofs.YtkofdbccdfpllaaDoor
set_option linter.unusedVariables false
set_option linter.unusedSimpArgs false
open Go.RowKit
def mostX (s:Int):Nat:=if hasF 3 s then 39+szF 8 false (109+8*s.toNat) else 0
def mostXE (s:Int):Nat:=if hasF 3 s then 0 else 2
theorem has3_iff {s:Int}:hasF 3 s=true↔1<=s/\s<=2048:=by
 constructor
 ·intro h
  obtain⟨h1,h2⟩:=(hasF_iff 3 _).1 h
  have h3:fitF 3 s < 2048:=h1
  rw[at3] at h2
  omega
 ·rintro⟨h1,h2⟩
  obtain⟨n,rfl⟩:=Int.eq_ofNat_of_zero_le (show 0<=s by omega)
  have hc:n - 1 < cntF 3:=by show n - 1 < 2048;omega
  have h:=has_at 3 (n - 1) hc
  rw[at3] at h
  rwa[show ((n - 1+1:Nat):Int)=(n:Int) by omega] at h
theorem szF_bound {n:Nat} (h:n<=16493):szF 8 false n<=20000:=by
 unfold szF
 split
 ·omega
 ·simp only[Bool.toNat_false]
  omega
theorem okX_nums {f:Hd} {l:List Nat} (h:okX f l=true) (hW:WdX f) :
    ∃ (i d v A:Nat) (S:Bool),f=⟨3,(i:Int),false,false,false,false,S,(d:Int),(v:Int),(A:Int)⟩/\1<=l.length/\l.length<=2048/\i < 2048/\d < 256/\v < 256/\A < 4294967296/\bxC f l=bodyX i d v A S l/\okXE f l=0/\f.I.toNat=i:=by
 obtain⟨i,ef,et,h1,h2,hi⟩:=okX_parts h hW.1
 obtain⟨w1,w2,w3,w4,w5,w6,w7⟩:=hW
 have e1:((f.D.toNat:Nat):Int)=f.D:=by omega
 have e2:((f.V.toNat:Nat):Int)=f.V:=by omega
 have e3:((f.A.toNat:Nat):Int)=f.A:=by omega
 exact⟨i,f.D.toNat,f.V.toNat,f.A.toNat,f.S,by rw[e1,e2,e3];exact ef,h1,h2,hi,by omega,by omega,by omega,by rw[bxC,if_pos h,et],by rw[okXE,if_pos h],et⟩
theorem wx_most {f:Hd} {l:List Nat} (h:okX f l=true) (hI:0<=f.I):(wxC f l).length<=mostX (l.length:Int)/\(bxC f l).length < (wxC f l).length:=by
 obtain⟨i,_,et,h1,h2,hi⟩:=okX_parts h hI
 have hb:=bx_len h
 have hr:=rx_len f l
 have hm:=headX_most i hi
 rw[et,hb] at hr
 have hw:(wxC f l).length=(rwX f l).length+10:=by rw[wxC,if_pos h,List.length_append,ones_len]
 have hge:=szF_ge 8 false (109+8*l.length)
 have e:mostX (l.length:Int)=39+szF 8 false (109+8*l.length):=by rw[mostX,if_pos (has3_iff.2 (by omega)),Int.toNat_natCast]
 rw[e,hw,hr,hb]
 omega
end Go.Proofs.YtkofdbccdfpllaaDoor
